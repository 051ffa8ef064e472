package health_test

import (
	"math"
	"slices"
	"testing"
)

// The example of the chapter's table, of New.

func TestExampleOfNoLists(t *testing.T) {
	wantNone(t, nil, nil)
	wantNone(t, make([]int, 11), make([]int, 12))
}

// P16.1.

func TestNewOfNoughts(t *testing.T) {
	h, _ := fresh(t)
	if h.Due() || !slices.Equal(h.Reads(), make([]int, 12)) || !slices.Equal(h.Scores(), make([]int, 12)) {
		t.Errorf("Due(): %v, Reads(): %v, Scores(): %v", h.Due(), h.Reads(), h.Scores())
	}
}

// Each block has its own: none is another's, and the reads are no scores.
func TestNewOfOtherNumbersEach(t *testing.T) {
	reads := []int{1, 20, 300, 4000, 50000, 6, 70, 511, 512, 513, 10, 11}
	scores := []int{200, 0, 1, 2, 3, 4, 254, 255, 8, 9, 100, 12}
	h, _ := begun(t, reads, scores)
	if !slices.Equal(h.Reads(), reads) || !slices.Equal(h.Scores(), scores) {
		t.Errorf("Reads(): %v, Scores(): %v, want %v, %v", h.Reads(), h.Scores(), reads, scores)
	}
}

func TestNewOfListsThatHaveNotTwelve(t *testing.T) {
	for many := range 40 {
		if many == 12 {
			continue
		}
		for _, number := range []int{0, 1, 70000} {
			wrong := slices.Repeat([]int{number}, many)
			wantNone(t, wrong, make([]int, 12))
			wantNone(t, make([]int, 12), wrong)
			wantNone(t, wrong, wrong)
		}
	}
	wantNone(t, nil, make([]int, 12))
	wantNone(t, make([]int, 12), nil)
	wantNone(t, []int{}, []int{})
	wantNone(t, make([]int, 11), make([]int, 13))
	wantNone(t, make([]int, 1<<16+12), make([]int, 12))
	wantNone(t, make([]int, 12), make([]int, 256+12))
}

// Eleven with room for more are eleven, and twelve of many are twelve.
func TestNewOfPartsOfLists(t *testing.T) {
	long := each(7)
	wantNone(t, long[:11], make([]int, 12))
	wantNone(t, make([]int, 12), long[:11])
	long = append(long, 9, -1, -1)
	begun(t, long[:12], long[:12])
	begun(t, long[1:13], long[1:13])
	wantNone(t, long[2:14], make([]int, 12))
}

func TestNewOfANumberBelowNought(t *testing.T) {
	for _, at := range blocks() {
		for _, number := range []int{-1, -2, -64, -65536, -1 << 32, math.MinInt + 1, math.MinInt} {
			wantNone(t, twelve(at, number), make([]int, 12))
			wantNone(t, make([]int, 12), twelve(at, number))
			wantNone(t, twelve(at, number), twelve(at, number))
			wantNone(t, each(number), each(number))
			full := each(math.MaxInt)
			full[at] = number
			wantNone(t, full, each(math.MaxInt))
			wantNone(t, each(math.MaxInt), full)
		}
		begun(t, twelve(at, 0), twelve(at, 0))
	}
}

// The numbers themselves: where the count goes on from.
func TestNewOfNumbersAboveTheMost(t *testing.T) {
	cases := []struct{ number, reads, score int }{
		{254, 254, 254},
		{255, 255, 255},
		{256, 256, 255},
		{257, 257, 255},
		{65534, 65534, 255},
		{65535, 65535, 255},
		{65536, 65535, 255},
		{65537, 65535, 255},
		{1 << 32, 65535, 255},
		{1<<32 + 5, 65535, 255},
		{math.MaxInt - 1, 65535, 255},
		{math.MaxInt, 65535, 255},
	}
	for _, c := range cases {
		for _, at := range blocks() {
			h, l := begun(t, twelve(at, c.number), twelve(at, c.number))
			if !slices.Equal(h.Reads(), twelve(at, c.reads)) || !slices.Equal(h.Scores(), twelve(at, c.score)) {
				t.Fatalf("New of %d: Reads(): %v, Scores(): %v", c.number, h.Reads(), h.Scores())
			}
			wantRead(t, h, &l, at)
			wantReport(t, h, &l, at)
			wantStands(t, h, l)
			if got := h.Reads()[at]; got != min(c.reads+1, 65535) {
				t.Fatalf("New of %d, Read(%d): %d", c.number, at, got)
			}
			if got := h.Scores()[at]; got != min(c.score+1, 255) {
				t.Fatalf("New of %d, Report(%d): %d", c.number, at, got)
			}
		}
	}
}

// The reads at New are those written down: however many they are, it is due 64 reads later, no sooner.
func TestReadsAtNewAreWrittenDown(t *testing.T) {
	for _, reads := range []int{0, 1, 63, 64, 65, 128, 448, 511, 512, 65471} {
		for _, at := range blocks() {
			h, l := begun(t, twelve(at, reads), make([]int, 12))
			for many := range 64 {
				if h.Due() {
					t.Fatalf("New of %d, %d reads of the block %d: it is due", reads, many, at)
				}
				wantRead(t, h, &l, at)
			}
			if !h.Due() {
				t.Fatalf("New of %d, 64 reads of the block %d: it isn't due", reads, at)
			}
			wantStands(t, h, l)
		}
	}
}
