package gc_test

import (
	"math"
	"slices"
	"testing"

	"patina/api"
)

// The examples of the chapter's table.

func TestExampleOfTwoFullBlocks(t *testing.T) {
	states := []int{2, 2, 1, 0, 0, 0, 0, 0, 0, 0, 0, 0}
	live := []int{3, 1, 0, 0, 0, 0, 0, 0, 0, 0, 0, 0}
	wantChoose(t, states, live, 1, nil)
	wantGain(t, states, live, 5, nil)
}

func TestExampleOfWrongOnes(t *testing.T) {
	wantChoose(t, make([]int, 12), make([]int, 12), 0, api.ErrNone)
	wantChoose(t, nil, nil, 0, api.ErrArg)
}

// P14.1: ErrArg.

// Each list alone, and both; with full blocks, and without any, so that ErrArg is told ahead of ErrNone.
func TestListsThatHaveNotTwelveNumbers(t *testing.T) {
	for _, state := range []int{0, 1, 2, 3} {
		for _, many := range wrongLengths() {
			wantWrong(t, all(many, state), all(12, 0), api.ErrArg)
			wantWrong(t, all(12, state), all(many, 0), api.ErrArg)
			for _, other := range wrongLengths() {
				wantWrong(t, all(many, state), all(other, 0), api.ErrArg)
			}
		}
	}
}

// A nil list is as an empty one, and the room behind a list isn't of it.
func TestListsWithoutNumbers(t *testing.T) {
	room := all(12, 2)
	for _, none := range [][]int{nil, {}, room[:0], room[12:]} {
		wantWrong(t, none, all(12, 0), api.ErrArg)
		wantWrong(t, all(12, 2), none, api.ErrArg)
		wantWrong(t, all(12, 0), none, api.ErrArg)
		wantWrong(t, none, nil, api.ErrArg)
		wantWrong(t, nil, none, api.ErrArg)
	}
	wantWrong(t, room[:11], all(12, 0), api.ErrArg)
	wantWrong(t, all(12, 2), room[:11], api.ErrArg)
}

// With spare room behind them lists of twelve are as any other.
func TestListsWithRoomBehindThem(t *testing.T) {
	long := append(with(0, 7, 2), 2, 2, 2)
	lives := append(all(12, 4), -9, -9, -9)
	wantBlock(t, long[:12], lives[:12], 7)
}

// P14.1: ErrNone.

// Every state but Full, and every number that is no state, at all blocks, whatever live tells.
func TestNoBlockIsFull(t *testing.T) {
	for _, state := range notFull() {
		for _, pages := range lives() {
			wantWrong(t, all(12, state), all(12, pages), api.ErrNone)
		}
	}
}

func TestNoBlockIsFullAmongAllOthers(t *testing.T) {
	s := source(41)
	for range 2000 {
		wantWrong(t, s.states(0), s.live(), api.ErrNone)
	}
}

// P14.1: the block.

// At each of the twelve places, among blocks of each other state and of numbers that are none, which have less live pages, as many, or more.
func TestOneFullBlock(t *testing.T) {
	for _, block := range blocks() {
		for _, state := range notFull() {
			for _, pages := range []int{math.MinInt, -1, 0, 1, 3, 6, 7, math.MaxInt} {
				for _, others := range []int{math.MinInt, 0, 3, math.MaxInt} {
					wantBlock(t, with(state, block, 2), with(others, block, pages), block)
				}
			}
		}
	}
}

// The least number of live pages at each place, all blocks full.
func TestTheLeastAtEachPlace(t *testing.T) {
	rising := lives()
	for _, block := range blocks() {
		for i, least := range rising {
			for _, others := range rising[i+1:] {
				wantBlock(t, all(12, 2), with(others, block, least), block)
			}
		}
	}
}

// The most at each place: it is never chosen, but of those behind it or ahead of it the first.
func TestTheMostAtEachPlace(t *testing.T) {
	rising := lives()
	for _, block := range blocks() {
		first := 0
		if block == 0 {
			first = 1
		}
		for i, others := range rising {
			for _, most := range rising[i+1:] {
				wantBlock(t, all(12, 2), with(others, block, most), first)
			}
		}
	}
}

// Twelve different numbers, rising, falling and turned round: the place of the least one.
func TestDifferentNumbers(t *testing.T) {
	for turn := range 12 {
		rising, falling := make([]int, 12), make([]int, 12)
		for block := range 12 {
			rising[block] = (block + turn) % 12
			falling[block] = (turn + 12 - block) % 12
		}
		wantBlock(t, all(12, 2), rising, (12-turn)%12)
		wantBlock(t, all(12, 2), falling, turn)
	}
}

// Equal numbers, of all full blocks or of some: the first of them counts.
func TestEqualNumbers(t *testing.T) {
	for _, pages := range lives() {
		wantBlock(t, all(12, 2), all(12, pages), 0)
		for first := range 12 {
			for second := first + 1; second < 12; second++ {
				states := all(12, 1)
				states[first], states[second] = 2, 2
				wantBlock(t, states, all(12, pages), first)
			}
		}
	}
}

// Two with the least number among full ones with one more.
func TestTheFirstOfTwo(t *testing.T) {
	for _, pages := range []int{math.MinInt, -1, 0, 2, 5, 6, math.MaxInt - 1} {
		for first := range 12 {
			for second := first + 1; second < 12; second++ {
				live := all(12, pages+1)
				live[first], live[second] = pages, pages
				wantBlock(t, all(12, 2), live, first)
			}
		}
	}
}

// Of two full blocks with each two numbers: numbers are held against each other as they are, also where their difference wraps round.
func TestEachTwoNumbers(t *testing.T) {
	states := with(0, 4, 2)
	states[9] = 2
	for _, a := range lives() {
		for _, b := range lives() {
			live := with(-100, 4, a)
			live[9] = b
			want := 4
			if b < a {
				want = 9
			}
			wantBlock(t, states, live, want)
		}
	}
}

// Every choice of full blocks, with the same numbers.
func TestEveryChoiceOfFullBlocks(t *testing.T) {
	live := []int{6, 4, 5, 2, 6, 3, 2, 0, 4, 1, 0, 3}
	for set := range 1 << 12 {
		states := make([]int, 12)
		for block := range states {
			states[block] = []int{0, 1, 3}[block%3]
			if set>>block&1 == 1 {
				states[block] = 2
			}
		}
		wantAsTold(t, states, live)
	}
}

// Lists of all kinds, each answer as the chapter tells it.
func TestListsOfAllKinds(t *testing.T) {
	s := source(42)
	for range 20000 {
		states, live := s.states(1+s.below(6)), s.live()
		if s.below(10) == 0 {
			states = slices.Repeat(states, 2)[:s.below(24)]
		}
		if s.below(10) == 0 {
			live = slices.Repeat(live, 2)[:s.below(24)]
		}
		wantAsTold(t, states, live)
		if t.Failed() {
			return
		}
	}
}
