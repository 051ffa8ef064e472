package patrol_test

import (
	"slices"
	"testing"

	"patina/api"
	"patina/patrol"
)

// The example of the chapter's table, of a Queue.

func TestExampleOfAQueue(t *testing.T) {
	var q patrol.Queue
	wantAdd(t, &q, 3, nil)
	wantAdd(t, &q, 0, nil)
	wantAdd(t, &q, 3, nil)
	wantLen(t, &q, 2)
	wantNext(t, &q, 3, true)
	wantAdd(t, &q, 3, nil)
	wantNext(t, &q, 0, true)
	wantNext(t, &q, 3, true)
	wantNext(t, &q, 0, false)
}

// P15.5.

// The zero Queue, however it came about.
func TestZeroQueue(t *testing.T) {
	var in struct{ q patrol.Queue }
	for _, q := range []*patrol.Queue{{}, new(patrol.Queue), &make([]patrol.Queue, 3)[1], &in.q} {
		wantWait(t, q)
		wantAdd(t, q, 11, nil)
		wantWait(t, q, 11)
	}
}

func TestAddOfEachBlock(t *testing.T) {
	for _, block := range blocks() {
		wantWait(t, waiting(t, block), block)
	}
}

// Of the block 0 too: it is told apart from none by the second answer.
func TestNextOfTheBlockNought(t *testing.T) {
	q := waiting(t, 0)
	wantNext(t, q, 0, true)
	wantNext(t, q, 0, false)
}

func TestAddOfNoBlock(t *testing.T) {
	for _, list := range [][]int{{}, {0}, {11}, {5, 3, 8}, {11, 10, 9, 8, 7, 6, 5, 4, 3, 2, 1, 0}} {
		q := waiting(t, list...)
		for _, block := range noBlocks() {
			wantAdd(t, q, block, api.ErrArg)
			wantLen(t, q, len(list))
		}
		wantWait(t, q, list...)
	}
	for _, block := range noBlocks() {
		q := waiting(t, 4, 2)
		wantAdd(t, q, block, api.ErrArg)
		wantWait(t, q, 4, 2)
	}
}

// A block that waits keeps its place, wherever that is, and however often it is added.
func TestAddOfABlockThatWaits(t *testing.T) {
	s := source(21)
	for many := 1; many <= 12; many++ {
		list := s.order()[:many]
		for _, block := range list {
			q := waiting(t, list...)
			for range 3 {
				wantAdd(t, q, block, nil)
				wantLen(t, q, many)
			}
			wantWait(t, q, list...)
		}
		q := waiting(t, list...)
		for _, block := range slices.Backward(list) {
			wantAdd(t, q, block, nil)
		}
		wantWait(t, q, list...)
	}
}

// One that was taken by Next waits no more: added again it is behind all others, the first one of twelve too.
func TestAddOfABlockThatWasTaken(t *testing.T) {
	s := source(22)
	for many := 1; many <= 12; many++ {
		list := s.order()[:many]
		for taken := 1; taken <= many; taken++ {
			for _, again := range list[:taken] {
				q := waiting(t, list...)
				for _, block := range list[:taken] {
					wantNext(t, q, block, true)
				}
				wantAdd(t, q, again, nil)
				wantLen(t, q, many-taken+1)
				wantAdd(t, q, again, nil)
				wantWait(t, q, append(slices.Clone(list[taken:]), again)...)
			}
		}
	}
}

// Each of those that were never there waits behind those that are, while some were taken.
func TestAddBehindNext(t *testing.T) {
	for first := range 12 {
		for second := range 12 {
			for third := range 12 {
				if first == second || first == third || second == third {
					continue
				}
				q := waiting(t, first, second)
				wantNext(t, q, first, true)
				wantAdd(t, q, third, nil)
				wantWait(t, q, second, third)
			}
		}
	}
}

func TestAllTwelveWait(t *testing.T) {
	s := source(23)
	orders := [][]int{blocks(), {11, 10, 9, 8, 7, 6, 5, 4, 3, 2, 1, 0}, {6, 0, 7, 1, 8, 2, 9, 3, 10, 4, 11, 5}}
	for range 200 {
		orders = append(orders, s.order())
	}
	for _, order := range orders {
		q := waiting(t, order...)
		for _, block := range blocks() {
			wantAdd(t, q, block, nil)
			wantLen(t, q, 12)
		}
		wantAdd(t, q, 12, api.ErrArg)
		wantWait(t, q, order...)
	}
}

// All twelve wait, and the first one is taken and added, many rounds.
func TestTwelveWaitRoundAndRound(t *testing.T) {
	s := source(24)
	order := s.order()
	q := waiting(t, order...)
	for i := range 500 {
		wantNext(t, q, order[i%12], true)
		wantLen(t, q, 11)
		wantAdd(t, q, order[i%12], nil)
		wantLen(t, q, 12)
	}
}

// Behind the last one a Queue is as a new one.
func TestAQueueThatWasEmptied(t *testing.T) {
	s := source(25)
	q := &patrol.Queue{}
	for range 200 {
		list := s.order()[:s.below(13)]
		for i, block := range list {
			wantAdd(t, q, block, nil)
			wantLen(t, q, i+1)
		}
		wantWait(t, q, list...)
	}
}

// Long runs of Add and Next mixed: with more Adds, as many of each, and more Nexts.
func TestTurnsOfAllKinds(t *testing.T) {
	s := source(26)
	for _, adds := range []int{4, 7, 8, 9, 12, 15} {
		for range 20 {
			q, l := &patrol.Queue{}, line{}
			for range 1000 {
				s.turn(t, q, &l, adds)
			}
			wantWait(t, q, l...)
		}
	}
}
