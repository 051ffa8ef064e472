package health_test

import (
	"slices"
	"testing"

	"patina/api"
)

// The examples of the chapter's table, of the counts.

func TestExampleOfTiredAndWeak(t *testing.T) {
	h, _ := begun(t, twelve(0, 511), twelve(0, 2))
	wantTired(t, h, 0, false, nil)
	if err := h.Read(0); err != nil {
		t.Errorf("Read(0): %v", err)
	}
	wantTired(t, h, 0, true, nil)
	wantWeak(t, h, 0, false, nil)
	if err := h.Report(0); err != nil {
		t.Errorf("Report(0): %v", err)
	}
	wantWeak(t, h, 0, true, nil)
}

func TestExampleOfNoBlock(t *testing.T) {
	h, _ := fresh(t)
	if err := h.Read(12); err != api.ErrArg {
		t.Errorf("Read(12): %v", err)
	}
}

// P16.2 to P16.5 and P16.7.

func TestReadOfEachBlock(t *testing.T) {
	h, l := fresh(t)
	for _, at := range blocks() {
		for range at + 1 {
			wantRead(t, h, &l, at)
			wantStands(t, h, l)
		}
	}
	if got := h.Reads(); !slices.Equal(got, []int{1, 2, 3, 4, 5, 6, 7, 8, 9, 10, 11, 12}) {
		t.Errorf("Reads(): %v", got)
	}
	if got := h.Scores(); !slices.Equal(got, make([]int, 12)) {
		t.Errorf("Scores() behind reads: %v", got)
	}
}

func TestReportOfEachBlock(t *testing.T) {
	h, l := fresh(t)
	for _, at := range blocks() {
		for range 12 - at {
			wantReport(t, h, &l, at)
			wantStands(t, h, l)
		}
	}
	if got := h.Scores(); !slices.Equal(got, []int{12, 11, 10, 9, 8, 7, 6, 5, 4, 3, 2, 1}) {
		t.Errorf("Scores(): %v", got)
	}
	if got := h.Reads(); !slices.Equal(got, make([]int, 12)) {
		t.Errorf("Reads() behind reports: %v", got)
	}
}

// Of what is no block each call is ErrArg, and nothing is changed, also if something is due, tired or weak.
func TestCallsOfNoBlock(t *testing.T) {
	s := source(11)
	for _, at := range noBlocks() {
		h, l := begun(t, s.reads(), s.scores())
		for range 70 {
			wantRead(t, h, &l, s.below(3))
		}
		for range 3 {
			for name, err := range map[string]error{"Read": h.Read(at), "Report": h.Report(at), "Erased": h.Erased(at)} {
				if err != api.ErrArg {
					t.Fatalf("%s(%d): %v", name, at, err)
				}
			}
			wantTired(t, h, at, false, api.ErrArg)
			wantWeak(t, h, at, false, api.ErrArg)
			wantStands(t, h, l)
		}
	}
	h, _ := begun(t, each(65535), each(255))
	for _, at := range noBlocks() {
		wantTired(t, h, at, false, api.ErrArg)
		wantWeak(t, h, at, false, api.ErrArg)
	}
}

// Up to the most, and no further, one block at a time.
func TestReadsUpTo65535(t *testing.T) {
	for _, at := range blocks() {
		h, l := begun(t, twelve(at, 65530), make([]int, 12))
		for _, want := range []int{65531, 65532, 65533, 65534, 65535, 65535, 65535, 65535} {
			wantRead(t, h, &l, at)
			wantStands(t, h, l)
			if got := h.Reads()[at]; got != want {
				t.Fatalf("Reads() of the block %d: %d, want %d", at, got, want)
			}
		}
	}
}

// The whole way from nought, past each number at which an answer turns.
func TestReadsFromNoughtToTheMost(t *testing.T) {
	h, l := fresh(t)
	for many := range 65535 + 100 {
		if many < 600 || many%1000 == 0 || many > 65500 {
			wantStands(t, h, l)
			wantTired(t, h, 5, many >= 512, nil)
		}
		wantRead(t, h, &l, 5)
	}
	if got := h.Reads(); !slices.Equal(got, twelve(5, 65535)) {
		t.Errorf("Reads(): %v", got)
	}
}

func TestScoresFromNoughtToTheMost(t *testing.T) {
	for _, at := range blocks() {
		h, l := fresh(t)
		for many := range 255 + 10 {
			wantWeak(t, h, at, many >= 3, nil)
			if got := h.Scores(); !slices.Equal(got, twelve(at, min(many, 255))) {
				t.Fatalf("Scores() behind %d reports of the block %d: %v", many, at, got)
			}
			wantReport(t, h, &l, at)
		}
		wantStands(t, h, l)
	}
}

// Just before, at and behind each limit, by New, for each block: the others are neither.
func TestTiredAndWeakOfEachBlock(t *testing.T) {
	for _, at := range blocks() {
		for _, c := range []struct {
			reads, score int
			tired, weak  bool
		}{
			{0, 0, false, false},
			{255, 1, false, false},
			{510, 2, false, false},
			{511, 2, false, false},
			{512, 2, true, false},
			{511, 3, false, true},
			{513, 4, true, true},
			{1024, 5, true, true},
			{65535, 255, true, true},
		} {
			h, _ := begun(t, twelve(at, c.reads), twelve(at, c.score))
			for _, other := range blocks() {
				wantTired(t, h, other, other == at && c.tired, nil)
				wantWeak(t, h, other, other == at && c.weak, nil)
			}
		}
	}
}

// P16.4.

// The reads of the block are 0, its score stays, all others stay.
func TestErasedOfEachBlock(t *testing.T) {
	reads := []int{600, 1, 511, 512, 65535, 64, 63, 300, 700, 800, 900, 1000}
	scores := []int{3, 255, 2, 1, 0, 4, 5, 6, 7, 8, 9, 10}
	for _, at := range blocks() {
		h, l := begun(t, reads, scores)
		wantErased(t, h, &l, at)
		wantStands(t, h, l)
		want := slices.Clone(reads)
		want[at] = 0
		if got := h.Reads(); !slices.Equal(got, want) {
			t.Fatalf("Erased(%d), Reads(): %v, want %v", at, got, want)
		}
		if got := h.Scores(); !slices.Equal(got, scores) {
			t.Fatalf("Erased(%d), Scores(): %v, want %v", at, got, scores)
		}
		wantTired(t, h, at, false, nil)
		wantErased(t, h, &l, at)
		wantStands(t, h, l)
	}
}

// It counts on from 0, and is tired behind 512 reads again.
func TestErasedAndReadAgain(t *testing.T) {
	for _, from := range []int{0, 1, 511, 512, 65535} {
		h, l := begun(t, twelve(7, from), twelve(7, 2))
		wantErased(t, h, &l, 7)
		for many := range 515 {
			wantTired(t, h, 7, many >= 512, nil)
			wantRead(t, h, &l, 7)
			wantStands(t, h, l)
		}
		wantWeak(t, h, 7, false, nil)
		wantReport(t, h, &l, 7)
		wantWeak(t, h, 7, true, nil)
	}
}
