package claim_test

import (
	"math"
	"slices"
	"testing"

	"patina/api"
	"patina/claim"
)

// P10.5: what follows.

func TestOrderChangesNothing(t *testing.T) {
	s := source(21)
	for range 1500 {
		places := s.places()
		l := make([]api.Found, s.below(60))
		for i := range l {
			l[i] = s.found()
			l[i].Place = places[i]
		}
		if len(l) > 0 && s.below(3) == 0 {
			l[0].Place = []int{-1, 96, math.MinInt, math.MaxInt}[s.below(4)]
		}
		c := s.checkpoint()
		live, next := claim.Live(l, c), claim.Next(l, c)
		var newest [25]api.Found
		for of := range newest {
			newest[of], _ = claim.Newest(l, of, 0)
		}
		for range 6 {
			shuffle(&s, l)
			if got := claim.Live(l, c); got != live {
				t.Fatalf("Live(%+v, %+v): %v, in another order %v", l, c, got, live)
			}
			wantNext(t, l, c, next)
			for of := range newest {
				if got, _ := claim.Newest(l, of, 0); got != newest[of] {
					t.Fatalf("Newest(%+v, %d, 0): %+v, in another order %+v", l, of, got, newest[of])
				}
			}
		}
	}
}

// rest is a list without the founds of which something is true.
func rest(l []api.Found, is func(api.Found) bool) []api.Found {
	return slices.DeleteFunc(slices.Clone(l), is)
}

// younger is a found's next copy, in another place.
func younger(f api.Found, place int) api.Found {
	return found(place, f.Tag.Of, f.Tag.Seq, (f.Tag.Copy+1)%256)
}

// Each number is moved by itself, to places that nobody has: until its elder copies are away nothing changes, and then the younger one is told.
func TestAMoveThatIsNotEnded(t *testing.T) {
	s := source(22)
	for range 1500 {
		l := s.apart(40)
		c := api.Checkpoint{}
		for of := range c.Floors {
			c.Floors[of] = int64(s.below(3))
		}
		live := claim.Live(l, c)
		for of, place := range live {
			if place < 0 {
				continue
			}
			elder := l[slices.IndexFunc(l, func(f api.Found) bool { return f.Place == place })]
			free := s.places()
			free = slices.DeleteFunc(free, func(p int) bool { return slices.ContainsFunc(l, func(f api.Found) bool { return f.Place == p }) })
			more := l
			for i := range 1 + s.below(3) {
				more = append(slices.Clone(more), younger(elder, free[i]))
				if got := claim.Live(more, c); got != live {
					t.Fatalf("Live(%+v, %+v): %v, ahead of the move of %+v %v", more, c, got, elder, live)
				}
			}
			wantYounger(t, rest(more, func(f api.Found) bool { return sameCopy(f, elder) }), c, live, of, elder)
		}
	}
}

// sameCopy tells whether two founds are of one number, seq and copy.
func sameCopy(a, b api.Found) bool {
	return a.Tag.Of == b.Tag.Of && a.Tag.Seq == b.Tag.Seq && a.Tag.Copy == b.Tag.Copy
}

// wantYounger asks Live behind a move's end: of one number the next copy of what counted, of the others what was told.
func wantYounger(t *testing.T, l []api.Found, c api.Checkpoint, live [25]int, of int, elder api.Found) {
	t.Helper()
	got := claim.Live(l, c)
	at := slices.IndexFunc(l, func(f api.Found) bool { return f.Place == got[of] })
	if at < 0 || !sameCopy(l[at], younger(elder, 0)) {
		t.Fatalf("Live(%+v, %+v): %v, which tells no younger copy of %+v", l, c, got, elder)
	}
	got[of] = live[of]
	if got != live {
		t.Fatalf("Live(%+v, %+v): %v beside the moved number, want %v", l, c, got, live)
	}
}

// A block is moved page by page, from the copies of one end of the ring to the other and on, and erased at last: behind each page Live is the same.
func TestABlockThatIsMovedRoundTheRing(t *testing.T) {
	var l []api.Found
	for i, of := range []int{3, 0, 23, 7, 12, 24} {
		l = append(l, found(i, of, int64(10+i), 250+i))
	}
	l = append(l, found(88, 3, 9, 4), found(89, 5, 30, 0), found(90, 24, 14, 255))
	c := allFloors(1)
	c.Bad[5] = true
	block := 0
	for range 600 {
		target := (block + 1) % 11
		if c.Bad[target] {
			target++
		}
		live := claim.Live(l, c)
		more := slices.Clone(l)
		moved := live
		for of, place := range live {
			if place/8 != block || place < 0 {
				continue
			}
			f := l[slices.IndexFunc(l, func(f api.Found) bool { return f.Place == place })]
			more = append(more, younger(f, 8*target+place%8))
			moved[of] = 8*target + place%8
			if got := claim.Live(more, c); got != live {
				t.Fatalf("Live(%+v): %v, ahead of the move %v", more, got, live)
			}
		}
		l = rest(more, func(f api.Found) bool { return f.Place/8 == block })
		if got := claim.Live(l, c); got != moved || moved == live {
			t.Fatalf("Live(%+v): %v, behind the move it is %v", l, got, moved)
		}
		block = target
	}
}

// A move to a bad block is none: what lies there doesn't count, even with the elder one away.
func TestAMoveToABadBlock(t *testing.T) {
	var c api.Checkpoint
	c.Bad[2] = true
	elder := found(8, 3, 5, 9)
	l := []api.Found{elder, younger(elder, 16)}
	wantLive(t, l, c, map[int]int{3: 8})
	wantLive(t, l[1:], c, nil)
}

// What is told lies above its floor, and in no bad block, and nothing greater does.
func TestNothingAtOrBelowAFloorCounts(t *testing.T) {
	s := source(23)
	for range 3000 {
		l, c := s.founds(30), s.checkpoint()
		for of, place := range claim.Live(l, c) {
			counts := func(f api.Found) bool {
				return isSound(f) && f.Tag.Of == of && !c.Bad[f.Place/8] && (of == 24 || f.Tag.Seq > c.Floors[of])
			}
			if place == -1 {
				if i := slices.IndexFunc(l, counts); i >= 0 {
					t.Fatalf("Live(%+v, %+v) tells no %d, but %+v counts", l, c, of, l[i])
				}
				continue
			}
			if !slices.ContainsFunc(l, func(f api.Found) bool { return f.Place == place && counts(f) }) {
				t.Fatalf("Live(%+v, %+v) tells %d at %d, where nothing counts", l, c, of, place)
			}
		}
		for _, above := range []int64{-1, 0, 1, 2, maxSeq - 1} {
			if f, is := claim.Newest(l, 1, above); is && f.Tag.Seq <= above {
				t.Fatalf("Newest(%+v, 1, %d): %+v", l, above, f)
			}
		}
	}
}

// With a floor raised to its greatest seq a number has no page, and the others theirs.
func TestAFloorRaised(t *testing.T) {
	s := source(24)
	for range 1000 {
		l := s.apart(30)
		c := allFloors(0)
		live := claim.Live(l, c)
		for of := range 24 {
			trimmed := c
			trimmed.Floors[of] = 3
			want := live
			want[of] = -1
			if got := claim.Live(l, trimmed); got != want {
				t.Fatalf("Live(%+v, %+v): %v, want %v", l, trimmed, got, want)
			}
		}
	}
}

func TestNextIsAboveEverySeq(t *testing.T) {
	s := source(25)
	for range 4000 {
		l, c := s.founds(8), s.checkpoint()
		next := claim.Next(l, c)
		if next < 0 || next > maxSeq {
			t.Fatalf("Next(%+v, %+v): %d", l, c, next)
		}
		if next == maxSeq {
			continue
		}
		for _, f := range l {
			if isSound(f) && f.Tag.Seq >= next {
				t.Fatalf("Next(%+v, %+v): %d", l, c, next)
			}
		}
		// What is written with it counts.
		f := found(s.below(96), 5, next, 0)
		if c.Bad[f.Place/8] {
			continue
		}
		if got := claim.Live(append(slices.Clone(l), f), c); got[5] != f.Place {
			t.Fatalf("Live(%+v and %+v, %+v): %v", l, f, c, got)
		}
	}
}
