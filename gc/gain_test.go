package gc_test

import (
	"math"
	"testing"

	"patina/gc"
)

// P14.2.

// Of each number of live pages, from below nought to above six, at each place.
func TestGainOfEachNumber(t *testing.T) {
	wins := []struct{ live, many int }{
		{math.MinInt, 6}, {math.MinInt + 1, 6}, {math.MinInt + 6, 6}, {-1 << 32, 6}, {-7, 6}, {-6, 6}, {-2, 6}, {-1, 6},
		{0, 6}, {1, 5}, {2, 4}, {3, 3}, {4, 2}, {5, 1}, {6, 0},
		{7, 0}, {8, 0}, {12, 0}, {255, 0}, {256, 0}, {1 << 32, 0}, {1<<32 + 3, 0}, {math.MaxInt - 1, 0}, {math.MaxInt, 0},
	}
	for _, block := range blocks() {
		for _, w := range wins {
			wantGain(t, with(0, block, 2), with(0, block, w.live), w.many, nil)
			wantGain(t, with(1, block, 2), with(-3, block, w.live), w.many, nil)
			wantGain(t, with(3, block, 2), with(9, block, w.live), w.many, nil)
		}
	}
}

// Gain is of the block that is chosen, not of another full one.
func TestGainOfTheBlockThatIsChosen(t *testing.T) {
	for _, block := range blocks() {
		for pages := range 7 {
			for others := pages; others < 9; others++ {
				wantGain(t, all(12, 2), with(others, block, pages), 6-pages, nil)
			}
		}
	}
}

// Choose and Gain tell the same error, and answer nought beside it, at whatever lists.
func TestGainTellsTheErrorOfChoose(t *testing.T) {
	s := source(43)
	for range 5000 {
		states, live := s.states(20), s.live()
		switch s.below(8) {
		case 0:
			states = states[:s.below(12)]
		case 1:
			live = live[:s.below(12)]
		case 2:
			states = append(states, 2)
		case 3:
			live = append(live, 0)
		}
		block, wrong := gc.Choose(states, live)
		many, also := gc.Gain(states, live)
		if wrong != also {
			t.Fatalf("of %v and %v Choose tells %v, Gain %v", states, live, wrong, also)
		}
		if wrong != nil && (block != 0 || many != 0) {
			t.Fatalf("of %v and %v: %d and %d beside %v", states, live, block, many, wrong)
		}
	}
}
