package claim_test

import (
	"math"
	"slices"
	"testing"

	"patina/api"
)

// examples are the founds of the chapter's table.
func examples() []api.Found {
	return []api.Found{found(8, 1, 5, 0), found(16, 1, 5, 1), found(2, 1, 4, 0)}
}

func TestExamplesOfNewest(t *testing.T) {
	l := examples()
	wantNewest(t, l, 1, 3, l[0])
	wantNewest(t, l[1:], 1, 3, l[1])
	wantNone(t, l, 1, 5)
}

// P10.2.

func TestNewestOfNoFounds(t *testing.T) {
	for _, l := range [][]api.Found{nil, {}, make([]api.Found, 0, 8)} {
		for of := -2; of < 28; of++ {
			wantNone(t, l, of, -1)
			wantNone(t, l, of, math.MinInt64)
			wantNone(t, l, of, math.MaxInt64)
		}
	}
}

// One found is the newest of its own number, above every seq below its own.
func TestNewestOfOne(t *testing.T) {
	for _, place := range []int{0, 1, 7, 8, 47, 94, 95} {
		for _, of := range []int{0, 1, 12, 23, 24} {
			for _, seq := range []int64{0, 1, 5, maxSeq - 1, maxSeq} {
				for _, copy := range []int{0, 1, 127, 128, 254, 255} {
					one := found(place, of, seq, copy)
					l := []api.Found{one}
					wantNewest(t, l, of, seq-1, one)
					wantNewest(t, l, of, -1, one)
					wantNewest(t, l, of, -2, one)
					wantNewest(t, l, of, math.MinInt64, one)
					wantNone(t, l, of, seq)
					wantNone(t, l, of, seq+1)
					wantNone(t, l, of, maxSeq)
					wantNone(t, l, of, math.MaxInt64)
					wantNone(t, l, of-1, -1)
					wantNone(t, l, of+1, -1)
				}
			}
		}
	}
}

// Each number has its own newest, wherever those of the others lie and whatever their seqs are.
func TestNewestOfSeveralNumbers(t *testing.T) {
	var l []api.Found
	for of := range 25 {
		l = append(l, found(95-of, of, int64(100+7*of%25), of), found(of, of, int64(50+of), 3))
	}
	for of := range 25 {
		wantNewest(t, l, of, -1, l[2*of])
		wantNewest(t, l, of, l[2*of].Tag.Seq-1, l[2*of])
		wantNone(t, l, of, l[2*of].Tag.Seq)
	}
}

// The greatest seq counts, at whatever place, in whatever copy, wherever it stands.
func TestNewestOfSeveralSeqs(t *testing.T) {
	seqs := []int64{0, 1, 2, 255, 256, 1 << 31, 1 << 32, 1<<32 + 1, maxSeq - 1, maxSeq}
	for turn := range seqs {
		var l []api.Found
		for i := range seqs {
			at := (i + turn) % len(seqs)
			l = append(l, found((90-9*i+turn)%96, 4, seqs[at], (250+3*at)%256))
		}
		for range 2 {
			greatest := slices.MaxFunc(l, func(a, b api.Found) int { return int(a.Tag.Seq - b.Tag.Seq) })
			wantNewest(t, l, 4, -1, greatest)
			wantNewest(t, l, 4, maxSeq-1, greatest)
			wantNone(t, l, 4, maxSeq)
			slices.Reverse(l)
		}
	}
}

// An above never makes an elder seq count: as long as the greatest is above it, that one counts.
func TestNewestAboveEachSeq(t *testing.T) {
	l := []api.Found{found(30, 2, 7, 9), found(40, 2, 3, 1), found(10, 2, 5, 2), found(50, 3, 9, 0)}
	for _, above := range []int64{math.MinInt64, -5, -1, 0, 2, 3, 4, 5, 6} {
		wantNewest(t, l, 2, above, l[0])
	}
	for _, above := range []int64{7, 8, 9, maxSeq, math.MaxInt64} {
		wantNone(t, l, 2, above)
	}
	wantNewest(t, l, 3, 8, l[3])
	wantNone(t, l, 3, 9)
}

func TestNewestAboveBelowNought(t *testing.T) {
	l := []api.Found{found(3, 0, 0, 0)}
	for _, above := range []int64{math.MinInt64, math.MinInt64 + 1, -maxSeq, -2, -1} {
		wantNewest(t, l, 0, above, l[0])
	}
	wantNone(t, l, 0, 0)
}

// Of every two copies of one seq the elder counts, wherever it lies; of two of which none is ahead, that of the lower place.
func TestNewestOfAllPairsOfCopies(t *testing.T) {
	for a := range 256 {
		for b := range 256 {
			low, high := found(20, 6, 9, a), found(71, 6, 9, b)
			want := low
			if isAhead(b, a) {
				want = high
			}
			wantNewest(t, []api.Found{low, high}, 6, 8, want)
			wantNewest(t, []api.Found{high, low}, 6, 8, want)
		}
	}
}

// The copy 255 is followed by 0: it is the elder one.
func TestNewestOfCopiesRoundTheEnd(t *testing.T) {
	elder, younger := found(60, 1, 5, 255), found(10, 1, 5, 0)
	wantNewest(t, []api.Found{elder, younger}, 1, 0, elder)
	wantNewest(t, []api.Found{younger, elder}, 1, 0, elder)
	wantNewest(t, []api.Found{younger}, 1, 0, younger)
	next := found(5, 1, 5, 1)
	wantNewest(t, []api.Found{next, younger, elder}, 1, 0, elder)
	wantNewest(t, []api.Found{next, younger}, 1, 0, younger)
}

// Copies of which each is ahead of another one: the way by rising place tells which counts, one by one.
func TestNewestOfARingOfCopies(t *testing.T) {
	s := source(9)
	for _, c := range []struct {
		copies []int // at the places 1, 2, 3 and so on
		want   int   // which of them counts
	}{
		{[]int{0, 100, 200}, 2}, // 100 isn't ahead of 0; 200 is
		{[]int{0, 200, 100}, 2}, // 200 is ahead of 0, and 100 of 200
		{[]int{100, 0, 200}, 2}, // 0 is ahead of 100, and 200 of 0
		{[]int{100, 200, 0}, 2},
		{[]int{200, 0, 100}, 2},
		{[]int{200, 100, 0}, 2},
		{[]int{0, 100, 200, 50}, 2},  // 50 isn't ahead of 200
		{[]int{0, 200, 50, 100}, 3},  // 50 isn't ahead of 200, 100 is
		{[]int{50, 100, 200, 0}, 2},  // 200 is ahead of 50, 0 not of 200
		{[]int{0, 128, 255, 127}, 2}, // neither 128 nor 127 is ahead
		{[]int{128, 0, 127, 255}, 2}, // 0 isn't ahead of 128, 127 is, and 255 isn't ahead of 127
	} {
		var l []api.Found
		for i, copy := range c.copies {
			l = append(l, found(1+i, 7, 4, copy))
		}
		want := l[c.want]
		for range 30 {
			wantNewest(t, l, 7, 3, want)
			shuffle(&s, l)
		}
	}
}

// orders are all of three.
func orders() [][3]int {
	return [][3]int{{0, 1, 2}, {0, 2, 1}, {1, 0, 2}, {1, 2, 0}, {2, 0, 1}, {2, 1, 0}}
}

// Three copies of one seq, all kinds of them, in all orders of the list.
func TestNewestOfThreeCopies(t *testing.T) {
	copies := []int{0, 1, 2, 126, 127, 128, 129, 200, 254, 255}
	for _, a := range copies {
		for _, b := range copies {
			for _, c := range copies {
				l := []api.Found{found(0, 24, maxSeq, a), found(40, 24, maxSeq, b), found(95, 24, maxSeq, c)}
				want, _ := newestOf(l, 24, 0)
				for _, order := range orders() {
					wantNewest(t, []api.Found{l[order[0]], l[order[1]], l[order[2]]}, 24, 0, want)
				}
			}
		}
	}
}

// More copies than places of a block: the eldest of them, wherever it lies.
func TestNewestOfManyCopies(t *testing.T) {
	s := source(11)
	for first := 0; first < 256; first += 5 {
		places := s.places()
		var l []api.Found
		for i := range 96 {
			l = append(l, found(places[i], 3, 8, (first+i)%256))
		}
		want := l[0]
		shuffle(&s, l)
		wantNewest(t, l, 3, 7, want)
	}
}

// Founds of one place are looked at as they stand in the list: the first one of the same copy, and the others if their copy is ahead.
func TestNewestOfOnePlace(t *testing.T) {
	whole, lost := found(12, 5, 6, 3), found(12, 5, 6, 3)
	lost.Tag.Lost = true
	wantNewest(t, []api.Found{whole, lost}, 5, 0, whole)
	wantNewest(t, []api.Found{lost, whole}, 5, 0, lost)
	elder := found(12, 5, 6, 2)
	wantNewest(t, []api.Found{whole, lost, elder}, 5, 0, elder)
	wantNewest(t, []api.Found{elder, whole, lost}, 5, 0, elder)
	// Copies that are 128 apart, of which none is ahead: the first one stays.
	far := found(12, 5, 6, 131)
	wantNewest(t, []api.Found{whole, far}, 5, 0, whole)
	wantNewest(t, []api.Found{far, whole}, 5, 0, far)
	// Those of a lower place come first, wherever they stand.
	low := found(11, 5, 6, 131)
	wantNewest(t, []api.Found{whole, lost, low}, 5, 0, low)
	wantNewest(t, []api.Found{lost, low, whole}, 5, 0, low)
	// A ring of one place hangs on the list's order alone.
	ring := []api.Found{found(9, 5, 6, 0), found(9, 5, 6, 100), found(9, 5, 6, 200)}
	wantNewest(t, ring, 5, 0, ring[2])
	wantNewest(t, []api.Found{ring[0], ring[2], ring[1]}, 5, 0, ring[1])
	wantNewest(t, []api.Found{ring[2], ring[1], ring[0]}, 5, 0, ring[0])
}

// Many of three places, more than a sort takes one by one: those of one place still as they stand.
func TestNewestOfManyInOnePlace(t *testing.T) {
	for many := 3; many < 200; many++ {
		var l []api.Found
		for i := range many {
			l = append(l, api.Found{Place: 40 - i%3, Tag: api.Tag{Place: i, Of: 5, Seq: 6, Copy: 7}})
		}
		wantNewest(t, l, 5, 0, l[2])
	}
}

// A found that isn't sound is passed over, even where it would count if it were: alone, ahead of a sound one, and behind it.
func TestNewestOfFoundsThatAreNotSound(t *testing.T) {
	for _, base := range []api.Found{found(0, 0, 0, 0), found(95, 24, maxSeq, 255), found(17, 3, 9, 128), found(8, 1, 1, 1)} {
		for _, f := range broken(base) {
			for _, of := range []int{base.Tag.Of, f.Tag.Of} {
				wantNone(t, []api.Found{f}, of, math.MinInt64)
				wantNone(t, []api.Found{f}, of, -1)
			}
			other := found(50, base.Tag.Of, base.Tag.Seq, base.Tag.Copy)
			for _, above := range []int64{math.MinInt64, -1, base.Tag.Seq - 1} {
				wantNewest(t, []api.Found{f, other}, base.Tag.Of, above, other)
				wantNewest(t, []api.Found{other, f}, base.Tag.Of, above, other)
				wantNewest(t, []api.Found{f, other, f}, base.Tag.Of, above, other)
			}
			wantNone(t, []api.Found{f, other}, base.Tag.Of, base.Tag.Seq)
		}
	}
}

// One above the greatest, and one below 0, in each field by itself.
func TestEndsOfSoundFounds(t *testing.T) {
	for _, c := range []struct {
		f  api.Found
		is bool
	}{
		{found(0, 5, 5, 5), true}, {found(-1, 5, 5, 5), false}, {found(95, 5, 5, 5), true}, {found(96, 5, 5, 5), false},
		{found(5, 0, 5, 5), true}, {found(5, -1, 5, 5), false}, {found(5, 24, 5, 5), true}, {found(5, 25, 5, 5), false},
		{found(5, 5, 0, 5), true}, {found(5, 5, -1, 5), false}, {found(5, 5, maxSeq, 5), true}, {found(5, 5, maxSeq+1, 5), false},
		{found(5, 5, 5, 0), true}, {found(5, 5, 5, -1), false}, {found(5, 5, 5, 255), true}, {found(5, 5, 5, 256), false},
	} {
		if c.is {
			wantNewest(t, []api.Found{c.f}, c.f.Tag.Of, math.MinInt64, c.f)
		} else {
			wantNone(t, []api.Found{c.f}, c.f.Tag.Of, math.MinInt64)
		}
	}
}

// There is no page of a number that isn't one.
func TestNewestOfNoNumber(t *testing.T) {
	var l []api.Found
	for of := range 25 {
		l = append(l, found(of, of, 9, 0))
	}
	for _, of := range []int{math.MinInt, math.MinInt + 1, -256, -25, -24, -2, -1, 25, 26, 48, 256, 280, math.MaxInt - 1, math.MaxInt} {
		like := found(30, of, 9, 0)
		for _, above := range []int64{math.MinInt64, -1, 0, 8} {
			wantNone(t, l, of, above)
			wantNone(t, append(slices.Clone(l), like), of, above)
		}
	}
}

// Tag.Place and Tag.Lost aren't looked at, and come as they stand.
func TestNewestAsItStands(t *testing.T) {
	for _, place := range []int{math.MinInt, -1, 0, 7, 8, 95, 96, math.MaxInt} {
		for _, lost := range []bool{false, true} {
			elder := api.Found{Place: 8, Tag: api.Tag{Place: place, Of: 1, Seq: 5, Copy: 4, Lost: lost}}
			younger := api.Found{Place: 2, Tag: api.Tag{Place: 2, Of: 1, Seq: 5, Copy: 5, Lost: !lost}}
			wantNewest(t, []api.Found{elder}, 1, 4, elder)
			wantNewest(t, []api.Found{younger, elder}, 1, 4, elder)
			wantNewest(t, []api.Found{elder, younger}, 1, 4, elder)
		}
	}
}

// A found whose tag is all noughts, as the zero Found, is told by the true beside it.
func TestNewestOfTheZeroFound(t *testing.T) {
	wantNewest(t, []api.Found{{}}, 0, -1, api.Found{})
	wantNone(t, []api.Found{{}}, 0, 0)
}

func TestNewestOfListsOfAllKinds(t *testing.T) {
	s := source(3)
	for range 4000 {
		l := s.founds(14)
		for _, of := range []int{-1, 0, 1, 2, 23, 24, 25, s.near(4, 24)} {
			for _, above := range []int64{math.MinInt64, -1, 0, 1, 2, maxSeq - 1, maxSeq, math.MaxInt64} {
				wantNewestAsTold(t, l, of, above)
			}
		}
		if t.Failed() {
			return
		}
	}
}

// Long lists of one number and few places, so that many founds have one.
func TestNewestOfLongLists(t *testing.T) {
	s := source(4)
	for range 200 {
		l := make([]api.Found, 300)
		for i := range l {
			l[i] = api.Found{Place: 10 + s.below(5), Tag: api.Tag{Place: i, Of: 2, Seq: int64(3 + s.below(2)), Copy: s.below(256)}}
		}
		wantNewestAsTold(t, l, 2, -1)
		wantNewestAsTold(t, l, 2, 3)
		wantNewestAsTold(t, l, 2, 4)
		if t.Failed() {
			return
		}
	}
}
