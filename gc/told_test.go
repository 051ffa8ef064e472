package gc_test

import (
	"math"
	"slices"
	"testing"

	"patina/api"
	"patina/gc"
)

// What the chapter says, told without the program.

// choose is P14.1, told otherwise than by one way through: the least number of the full blocks first, then the first block that has it.
func choose(states, live []int) (int, error) {
	if len(states) != 12 || len(live) != 12 {
		return 0, api.ErrArg
	}
	var of []int
	for block := range 12 {
		if states[block] == 2 {
			of = append(of, live[block])
		}
	}
	if len(of) == 0 {
		return 0, api.ErrNone
	}
	for block := 0; ; block++ {
		if states[block] == 2 && live[block] == slices.Min(of) {
			return block, nil
		}
	}
}

// won is what the chapter tells of it: of each number of live pages the pages for sectors that are won.
func won(live int) int {
	if live < 0 {
		return 6
	}
	return map[int]int{0: 6, 1: 5, 2: 4, 3: 3, 4: 2, 5: 1}[live]
}

// gain is P14.2.
func gain(states, live []int) (int, error) {
	block, err := choose(states, live)
	if err != nil {
		return 0, err
	}
	return won(live[block]), nil
}

// blocks are all that there are.
func blocks() []int { return []int{0, 1, 2, 3, 4, 5, 6, 7, 8, 9, 10, 11} }

// notFull are the other states, free, open and bad, and numbers that are no state's: those next to them, some that are 2 once they are cut down to fewer bits or lose their sign, both ends of their type.
func notFull() []int {
	return []int{
		0, 1, 3,
		math.MinInt, math.MinInt + 1, math.MinInt + 2, math.MinInt32, -1<<32 + 2, -256, -254, -4, -3, -2, -1,
		4, 5, 12, 128, 255, 256, 258, 1<<16 + 2, 1<<31 - 1, 1 << 32, 1<<32 + 2, 1<<62 + 2, math.MaxInt - 1, math.MaxInt,
	}
}

// lives are numbers of live pages, rising: those that may be, those next to them, both ends of their type.
func lives() []int {
	return []int{
		math.MinInt, math.MinInt + 1, math.MinInt + 6, math.MinInt + 7, -1 << 32, math.MinInt32, -256, -8, -7, -6, -5, -3, -2, -1,
		0, 1, 2, 3, 4, 5, 6, 7, 8, 9, 12, 13, 255, 256, 257, 1<<31 - 1, 1 << 32, 1<<32 + 3, 1 << 62, math.MaxInt - 6, math.MaxInt - 1, math.MaxInt,
	}
}

// wrongLengths are those of lists that aren't of twelve numbers.
func wrongLengths() []int {
	return []int{0, 1, 2, 6, 10, 11, 13, 14, 23, 24, 25, 96, 256, 268, 1<<16 + 12}
}

// all is a list of one number, so many times.
func all(many, n int) []int {
	out := make([]int, many)
	for i := range out {
		out[i] = n
	}
	return out
}

// with is a list of twelve of one number, but for one block.
func with(most, block, n int) []int {
	out := all(12, most)
	out[block] = n
	return out
}

func wantChoose(t *testing.T, states, live []int, want int, wrong error) {
	t.Helper()
	if block, err := gc.Choose(states, live); block != want || err != wrong {
		t.Errorf("Choose(%v, %v): %d, %v, want %d, %v", short(states), short(live), block, err, want, wrong)
	}
}

func wantGain(t *testing.T, states, live []int, want int, wrong error) {
	t.Helper()
	if many, err := gc.Gain(states, live); many != want || err != wrong {
		t.Errorf("Gain(%v, %v): %d, %v, want %d, %v", short(states), short(live), many, err, want, wrong)
	}
}

// short is the beginning of a list, so that a long one can be told.
func short(list []int) []int { return list[:min(len(list), 14)] }

// wantWrong asks both calls for one error.
func wantWrong(t *testing.T, states, live []int, wrong error) {
	t.Helper()
	wantChoose(t, states, live, 0, wrong)
	wantGain(t, states, live, 0, wrong)
}

// wantBlock asks both calls where one block is chosen.
func wantBlock(t *testing.T, states, live []int, block int) {
	t.Helper()
	wantChoose(t, states, live, block, nil)
	wantGain(t, states, live, won(live[block]), nil)
}

// wantAsTold asks both calls for what the chapter tells.
func wantAsTold(t *testing.T, states, live []int) {
	t.Helper()
	block, wrong := choose(states, live)
	wantChoose(t, states, live, block, wrong)
	many, wrong := gain(states, live)
	wantGain(t, states, live, many, wrong)
}

// source gives numbers that hang on its start alone.
type source uint64

func (s *source) next() uint64 {
	*s = *s*6364136223846793005 + 1442695040888963407
	return uint64(*s) >> 31
}

func (s *source) below(n int) int { return int(s.next() % uint64(n)) }

func (s *source) of(list []int) int { return list[s.below(len(list))] }

// states are any twelve; one in so many is full, none with 0.
func (s *source) states(many int) []int {
	out := make([]int, 12)
	for block := range out {
		out[block] = s.of(notFull())
		if many > 0 && s.below(many) == 0 {
			out[block] = 2
		}
	}
	return out
}

// live are any twelve, mostly such as there are.
func (s *source) live() []int {
	out := make([]int, 12)
	for block := range out {
		out[block] = s.below(9)
		if s.below(8) == 0 {
			out[block] = s.of(lives())
		}
	}
	return out
}
