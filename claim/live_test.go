package claim_test

import (
	"math"
	"testing"

	"patina/api"
)

func TestExamplesOfLive(t *testing.T) {
	var c api.Checkpoint
	c.Floors[1] = 5
	wantLive(t, examples(), c, nil)
}

// P10.3.

func TestLiveOfNoFounds(t *testing.T) {
	for _, l := range [][]api.Found{nil, {}} {
		for _, floor := range []int64{math.MinInt64, -1, 0, 1, maxSeq, math.MaxInt64} {
			wantLive(t, l, allFloors(floor), nil)
		}
	}
}

// Each number has its own place in the answer.
func TestLiveOfEachNumber(t *testing.T) {
	for of := range 25 {
		for _, place := range []int{0, 1, 7, 8, 50, 94, 95} {
			wantLive(t, []api.Found{found(place, of, 1, 0)}, api.Checkpoint{}, map[int]int{of: place})
		}
	}
	var l []api.Found
	want := map[int]int{}
	for of := range 25 {
		l = append(l, found(90-3*of, of, int64(30-of), 255-of), found(91-3*of, of, 1, 0))
		want[of] = 90 - 3*of
	}
	wantLive(t, l, api.Checkpoint{}, want)
}

// Place is told, not the place that the tag tells.
func TestLiveTellsWhereItWasFound(t *testing.T) {
	l := []api.Found{{Place: 33, Tag: api.Tag{Place: 44, Of: 2, Seq: 1}}, {Place: 0, Tag: api.Tag{Place: 95, Of: 24, Seq: 1, Lost: true}}}
	wantLive(t, l, api.Checkpoint{}, map[int]int{2: 33, 24: 0})
}

// Floors at, above and below the seqs, of the sector itself and of no other.
func TestLiveAboveFloors(t *testing.T) {
	for of := range 24 {
		for _, seq := range []int64{0, 1, 5, maxSeq - 1, maxSeq} {
			l := []api.Found{found(20, of, seq, 0)}
			for _, floor := range []int64{math.MinInt64, math.MinInt64 + 1, -maxSeq, -2, -1, 0, 1, 4, 5, 6, maxSeq - 1, maxSeq, maxSeq + 1, math.MaxInt64 - 1, math.MaxInt64} {
				own, others := allFloors(-1), allFloors(floor)
				own.Floors[of], others.Floors[of] = floor, -1
				want := map[int]int{}
				if seq > floor {
					want[of] = 20
				}
				wantLive(t, l, own, want)
				wantLive(t, l, others, map[int]int{of: 20})
			}
		}
	}
}

// A seq of 0 doesn't count above the floor 0, which is that of a checkpoint that tells nothing; the checkpoint's own does.
func TestLiveOfTheSeqNought(t *testing.T) {
	l := []api.Found{found(3, 0, 0, 0), found(6, 24, 0, 0)}
	wantLive(t, l, api.Checkpoint{}, map[int]int{24: 6})
	wantLive(t, l, allFloors(-1), map[int]int{0: 3, 24: 6})
}

// The checkpoint has no floor: its pages count whatever the floors and Next are.
func TestLiveOfTheCheckpoint(t *testing.T) {
	for _, seq := range []int64{0, 1, 9, maxSeq} {
		for _, floor := range []int64{math.MinInt64, -1, 0, 9, maxSeq, math.MaxInt64} {
			c := allFloors(floor)
			for _, c.Next = range []int64{math.MinInt64, 0, 9, math.MaxInt64} {
				wantLive(t, []api.Found{found(70, 24, seq, 0)}, c, map[int]int{24: 70})
			}
		}
	}
	wantLive(t, []api.Found{found(70, 24, -1, 0)}, allFloors(math.MinInt64), nil)
	wantLive(t, []api.Found{found(70, 24, 3, 1), found(71, 24, 4, 2), found(72, 24, 4, 1)}, api.Checkpoint{}, map[int]int{24: 72})
}

// What lies in a bad block doesn't count, and all else does, at each page of each block.
func TestLiveWithEachBadBlock(t *testing.T) {
	for block := range 12 {
		var c api.Checkpoint
		c.Bad[block] = true
		for place := range 96 {
			for _, of := range []int{0, 23, 24} {
				want := map[int]int{}
				if place < 8*block || place > 8*block+7 {
					want[of] = place
				}
				wantLive(t, []api.Found{found(place, of, 2, 0)}, c, want)
			}
		}
	}
}

func TestLiveWithEverySetOfBadBlocks(t *testing.T) {
	var l []api.Found
	for block := range 12 {
		l = append(l, found(8*block, 2*block, 4, 0), found(8*block+5, 2*block+1, 4, 0))
	}
	l = append(l, found(6, 24, 4, 0))
	for set := range 1 << 12 {
		var c api.Checkpoint
		want := map[int]int{}
		for block := range 12 {
			c.Bad[block] = set>>block&1 == 1
			if !c.Bad[block] {
				want[2*block], want[2*block+1] = 8*block, 8*block+5
			}
		}
		if !c.Bad[0] {
			want[24] = 6
		}
		wantLive(t, l, c, want)
	}
}

// With a newer one, or an elder copy, in a bad block, the best of the others counts.
func TestLiveBesideABadBlock(t *testing.T) {
	l := []api.Found{found(8, 3, 9, 0), found(16, 3, 8, 4), found(24, 3, 8, 3), found(32, 3, 7, 0)}
	for _, c := range []struct {
		bad   []int
		place int
	}{{nil, 8}, {[]int{1}, 24}, {[]int{2}, 8}, {[]int{1, 3}, 16}, {[]int{1, 2, 3}, 32}, {[]int{1, 2}, 24}, {[]int{1, 2, 3, 4}, -1}, {[]int{0, 5, 11}, 8}} {
		var k api.Checkpoint
		for _, block := range c.bad {
			k.Bad[block] = true
		}
		want := map[int]int{3: c.place}
		wantLive(t, l, k, want)
		k.Floors[3] = 7
		if c.place == 32 {
			want = nil
		}
		wantLive(t, l, k, want)
	}
}

// Founds that aren't sound are passed over, also where no block can be told of their place.
func TestLiveOfFoundsThatAreNotSound(t *testing.T) {
	var all api.Checkpoint
	for block := range all.Bad {
		all.Bad[block] = true
	}
	lowest := allFloors(math.MinInt64)
	for _, base := range []api.Found{found(0, 0, 1, 0), found(95, 24, maxSeq, 255), found(17, 3, 9, 128)} {
		for _, f := range broken(base) {
			wantLive(t, []api.Found{f}, api.Checkpoint{}, nil)
			wantLive(t, []api.Found{f}, lowest, nil)
			wantLive(t, []api.Found{f}, all, nil)
			other := found(40, base.Tag.Of, base.Tag.Seq, base.Tag.Copy)
			wantLive(t, []api.Found{f, other}, api.Checkpoint{}, map[int]int{base.Tag.Of: 40})
			wantLive(t, []api.Found{other, f}, lowest, map[int]int{base.Tag.Of: 40})
			wantLive(t, []api.Found{other, f}, all, nil)
		}
	}
}

// What else a checkpoint tells changes nothing.
func TestLiveLooksAtFloorsAndBadAlone(t *testing.T) {
	s := source(5)
	for range 500 {
		l, c := s.founds(10), s.checkpoint()
		plain := api.Checkpoint{Floors: c.Floors, Bad: c.Bad}
		wantLiveAsTold(t, l, plain)
		wantLiveAsTold(t, l, c)
	}
}

func TestLiveOfListsOfAllKinds(t *testing.T) {
	s := source(6)
	for range 6000 {
		wantLiveAsTold(t, s.founds(30), s.checkpoint())
		if t.Failed() {
			return
		}
	}
}
