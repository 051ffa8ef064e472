package claim_test

import (
	"math"
	"testing"

	"patina/api"
)

func TestExamplesOfNext(t *testing.T) {
	wantNext(t, examples(), api.Checkpoint{}, 6)
	wantNext(t, nil, api.Checkpoint{}, 1)
	wantNext(t, nil, api.Checkpoint{Next: 9}, 9)
}

// P10.4.

// edges are numbers about both ends of the seqs and of their type, and the next seq of each.
func edges() map[int64]int64 {
	return map[int64]int64{
		math.MinInt64: 0, math.MinInt64 + 1: 0, math.MinInt64 + 2: 0, -maxSeq: 0, -3: 0, -2: 0, -1: 0,
		0: 1, 1: 2, 2: 3, 8: 9, 1<<32 - 1: 1 << 32, maxSeq - 3: maxSeq - 2, maxSeq - 2: maxSeq - 1, maxSeq - 1: maxSeq,
		maxSeq: maxSeq, maxSeq + 1: maxSeq, maxSeq + 2: maxSeq, 2 * maxSeq: maxSeq, math.MaxInt64 - 1: maxSeq, math.MaxInt64: maxSeq,
	}
}

// Of no founds: the floors alone, all of them alike, and one by itself.
func TestNextOfFloors(t *testing.T) {
	for floor, want := range edges() {
		for _, next := range []int64{math.MinInt64, -1, 0} {
			c := allFloors(floor)
			c.Next = next
			wantNext(t, nil, c, want)
			wantNext(t, []api.Found{}, c, want)
			for of := range 24 {
				one := allFloors(math.MinInt64)
				one.Floors[of], one.Next = floor, next
				wantNext(t, nil, one, want)
			}
		}
	}
}

// Of no founds and floors below 0: c.Next as it is, from 0 to MaxSeq.
func TestNextOfNextAlone(t *testing.T) {
	for _, floor := range []int64{math.MinInt64, -2, -1} {
		c := allFloors(floor)
		for next := range edges() {
			c.Next = next
			wantNext(t, nil, c, min(max(next, 0), maxSeq))
		}
	}
	// With floors of 0 it is 1 at least.
	for next := range edges() {
		wantNext(t, nil, api.Checkpoint{Next: next}, min(max(next, 1), maxSeq))
	}
}

func TestNextWithAllBelowNought(t *testing.T) {
	for _, floor := range []int64{math.MinInt64, -1} {
		for _, next := range []int64{math.MinInt64, math.MinInt64 + 1, -1, 0} {
			c := allFloors(floor)
			c.Next = next
			wantNext(t, nil, c, 0)
			c.Next = 1
			wantNext(t, nil, c, 1)
		}
	}
}

// One more than the seq of a found, of every number, also of one in a bad block, and at or below a floor.
func TestNextOfOneFound(t *testing.T) {
	bad := allFloors(-1)
	for block := range bad.Bad {
		bad.Bad[block] = true
	}
	for _, seq := range []int64{0, 1, 5, 1 << 32, maxSeq - 2, maxSeq - 1, maxSeq} {
		want := min(seq+1, maxSeq)
		for of := range 25 {
			l := []api.Found{found(4*of%96, of, seq, 10*of)}
			wantNext(t, l, allFloors(-1), want)
			wantNext(t, l, allFloors(math.MinInt64), want)
			wantNext(t, l, allFloors(seq), want)
			wantNext(t, l, bad, want)
			wantNext(t, l, allFloors(math.MaxInt64), maxSeq)
		}
	}
}

// The greatest of the three kinds, whichever it is.
func TestNextOfTheGreatest(t *testing.T) {
	numbers := []int64{0, 1, 2, 3, 50, maxSeq - 1, maxSeq}
	for _, a := range numbers {
		for _, b := range numbers {
			for _, floor := range numbers {
				for _, next := range numbers {
					c := api.Checkpoint{Next: next}
					c.Floors[(a+b)%24] = floor
					want := min(max(a, b, floor, next-1)+1, maxSeq)
					wantNext(t, []api.Found{found(0, 3, a, 7), found(95, 24, b, 200)}, c, want)
				}
			}
		}
	}
}

// The greatest seq of a long list, wherever it stands.
func TestNextOfManyFounds(t *testing.T) {
	for at := range 96 {
		var l []api.Found
		for place := range 96 {
			l = append(l, found(place, place%25, int64(place), 0))
		}
		l[at].Tag.Seq = 500
		wantNext(t, l, api.Checkpoint{}, 501)
		wantNext(t, l, api.Checkpoint{Next: 502}, 502)
		wantNext(t, l, api.Checkpoint{Next: 501}, 501)
		wantNext(t, l, api.Checkpoint{Next: 500}, 501)
	}
}

// Founds that aren't sound are passed over, whatever their seq is.
func TestNextOfFoundsThatAreNotSound(t *testing.T) {
	for _, base := range []api.Found{found(0, 0, 7, 0), found(95, 24, maxSeq, 255), found(17, 3, maxSeq-1, 128)} {
		for _, f := range broken(base) {
			wantNext(t, []api.Found{f}, api.Checkpoint{}, 1)
			wantNext(t, []api.Found{f}, allFloors(-1), 0)
			wantNext(t, []api.Found{f, found(1, 1, 4, 0), f}, api.Checkpoint{}, 5)
		}
	}
}

// Bad, Cursor, Reads and Scores, and which number, copy and place a seq has, change nothing.
func TestNextLooksAtSeqsFloorsAndNextAlone(t *testing.T) {
	s := source(7)
	for range 3000 {
		l, c := s.founds(6), s.checkpoint()
		wantNext(t, l, c, nextOf(l, c))
		wantNext(t, l, api.Checkpoint{Floors: c.Floors, Next: c.Next}, nextOf(l, c))
		var plain []api.Found
		for _, f := range l {
			if isSound(f) {
				plain = append(plain, found(0, 0, f.Tag.Seq, 0))
			}
		}
		wantNext(t, plain, c, nextOf(l, c))
	}
}

func TestNextOfListsOfAllKinds(t *testing.T) {
	s := source(8)
	for range 5000 {
		l, c := s.founds(5), allFloors(int64(s.near(4, maxSeq))-1)
		c.Next = int64(s.near(6, maxSeq))
		c.Floors[s.below(24)] = int64(s.near(6, maxSeq))
		wantNext(t, l, c, nextOf(l, c))
	}
}
