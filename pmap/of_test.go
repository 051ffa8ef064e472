package pmap_test

import (
	"slices"
	"testing"

	"patina/pmap"
)

// P12.5.

// orders are all orders in which so many things may come.
func orders(many int) [][]int {
	if many == 0 {
		return [][]int{nil}
	}
	var out [][]int
	for _, order := range orders(many - 1) {
		for at := range many {
			out = append(out, slices.Insert(slices.Clone(order), at, many-1))
		}
	}
	return out
}

// Six sectors are laid upon the six pages of a block, in all orders of the Sets, and in all orders of the numbers.
func TestOfByRisingPlace(t *testing.T) {
	for turn, order := range orders(6) {
		block := turn % 12
		sets, owners := pmap.New(), pmap.New()
		for i, index := range order {
			wantSet(t, sets, 20-index, 8*block+index, nil)
			wantSet(t, owners, 3*index, 8*block+i, nil)
		}
		wantOf(t, sets, block, 20, 19, 18, 17, 16, 15)
		wantOf(t, owners, block, 3*order[0], 3*order[1], 3*order[2], 3*order[3], 3*order[4], 3*order[5])
	}
}

// The checkpoint comes where its page comes, be it the first or the last.
func TestOfWithTheCheckpoint(t *testing.T) {
	for _, block := range blocks() {
		for index := range 8 {
			m := pmap.New()
			wantSet(t, m, 24, 8*block+index, nil)
			var want []int
			for i := range 8 {
				switch {
				case i == index:
					want = append(want, 24)
				case i < 6:
					wantSet(t, m, 23-i, 8*block+i, nil)
					want = append(want, 23-i)
				}
			}
			wantOf(t, m, block, want...)
			if got := m.Live()[block]; got != len(want) {
				t.Errorf("Live(), of the block %d: %d, want %d", block, got, len(want))
			}
		}
	}
}

// Every set of pages of a block, and nothing in the blocks beside it.
func TestOfEverySetOfPages(t *testing.T) {
	for set := range 64 {
		for _, block := range blocks() {
			l := lay{}
			for index := range 6 {
				if set>>index&1 == 1 {
					l[(5*index+block)%24] = 8*block + index
				}
			}
			m := ofLay(t, l)
			for _, other := range blocks() {
				wantOf(t, m, other, l.in(other)...)
			}
			wantLive(t, m, l.live()...)
		}
	}
}

func TestOfWhatIsNoBlock(t *testing.T) {
	s := source(31)
	for _, many := range []int{0, 12, 25} {
		m := ofLay(t, s.lay(many, 12))
		for _, block := range noBlocks() {
			wantNoOf(t, m, block)
		}
	}
}

// Of and Live follow what comes into a block and goes out of it.
func TestOfFollowsSetsAndDrops(t *testing.T) {
	m := pmap.New()
	wantSet(t, m, 5, 90, nil)
	wantSet(t, m, 9, 88, nil)
	wantSet(t, m, 24, 89, nil)
	wantOf(t, m, 11, 9, 24, 5)
	wantLive(t, m, 0, 0, 0, 0, 0, 0, 0, 0, 0, 0, 0, 3)
	wantSet(t, m, 24, 95, nil)
	wantOf(t, m, 11, 9, 5, 24)
	wantLive(t, m, 0, 0, 0, 0, 0, 0, 0, 0, 0, 0, 0, 3)
	wantSet(t, m, 9, 7*8, nil)
	wantOf(t, m, 11, 5, 24)
	wantOf(t, m, 7, 9)
	wantLive(t, m, 0, 0, 0, 0, 0, 0, 0, 1, 0, 0, 0, 2)
	wantDrop(t, m, 5, nil)
	wantOf(t, m, 11, 24)
	wantLive(t, m, 0, 0, 0, 0, 0, 0, 0, 1, 0, 0, 0, 1)
	wantDrop(t, m, 24, nil)
	wantOf(t, m, 11)
	wantLive(t, m, 0, 0, 0, 0, 0, 0, 0, 1, 0, 0, 0, 0)
}

// Each block carries another count.
func TestLiveOfEachBlock(t *testing.T) {
	for turn := range 12 {
		counts := make([]int, 12)
		for i, many := range []int{6, 0, 1, 5, 2, 4, 3, 0, 1, 2} {
			counts[(i+turn)%12] = many
		}
		m, of := pmap.New(), 0
		for block, many := range counts {
			for index := range many {
				wantSet(t, m, of, 8*block+index, nil)
				of++
			}
		}
		wantLive(t, m, counts...)
	}
}
