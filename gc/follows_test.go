package gc_test

import (
	"slices"
	"testing"

	"patina/gc"
)

// P14.3, by the answers alone.

// full are seven blocks that are full, the other five free, open or bad; which ones hangs on the source.
func full(s *source) []int {
	out := make([]int, 12)
	for block := range out {
		out[block] = []int{0, 1, 3}[s.below(3)]
	}
	for many := 0; many < 7; {
		if block := s.below(12); out[block] != 2 {
			out[block] = 2
			many++
		}
	}
	return out
}

// laid are so many live pages, each in a full block, of which none has more than eight.
func laid(s *source, states []int, pages int) []int {
	out := make([]int, 12)
	for pages > 0 {
		if block := s.below(12); states[block] == 2 && out[block] < 8 {
			out[block]++
			pages--
		}
	}
	return out
}

// However the pages lie, and however many there are up to 25.
func TestSevenFullBlocksWinThreePages(t *testing.T) {
	s := source(61)
	for pages := range 26 {
		for range 300 {
			states := full(&s)
			live := laid(&s, states, pages)
			if many, err := gc.Gain(states, live); many < 3 || err != nil {
				t.Fatalf("Gain(%v, %v): %d, %v, want 3 or more", states, live, many, err)
			}
		}
	}
}

// As evenly as 25 can lie: three in three blocks, four in four; the blocks with three win three pages.
func TestTwentyFivePagesAsEvenAsMayBe(t *testing.T) {
	for set := range 1 << 7 {
		live := make([]int, 12)
		for i := range 7 {
			live[i] = 3 + set>>i&1
		}
		sum := 0
		for _, pages := range live {
			sum += pages
		}
		many, err := gc.Gain([]int{2, 2, 2, 2, 2, 2, 2, 0, 0, 0, 0, 0}, live)
		if err != nil || sum <= 25 && many < 3 || sum == 28 && many != 2 {
			t.Errorf("Gain with %v live pages: %d, %v", live, many, err)
		}
	}
}

// Some of the 25 may lie in blocks that aren't full, too.
func TestPagesInOtherBlocks(t *testing.T) {
	s := source(62)
	for range 3000 {
		states, live := full(&s), make([]int, 12)
		for range s.below(26) {
			live[s.below(12)]++
		}
		if many, err := gc.Gain(states, live); many < 3 || err != nil {
			t.Fatalf("Gain(%v, %v): %d, %v, want 3 or more", states, live, many, err)
		}
	}
}

// Whatever stands at blocks that aren't full, in either list: the answers are the same.
func TestWhatStandsAtOtherBlocksChangesNothing(t *testing.T) {
	s := source(63)
	for range 3000 {
		states, live := s.states(1+s.below(12)), s.live()
		block, wrong := gc.Choose(states, live)
		many, _ := gc.Gain(states, live)
		for range 5 {
			states, live := slices.Clone(states), slices.Clone(live)
			for at, state := range states {
				if state != 2 {
					states[at], live[at] = s.of(notFull()), s.of(lives())
				}
			}
			wantChoose(t, states, live, block, wrong)
			wantGain(t, states, live, many, wrong)
		}
		if t.Failed() {
			return
		}
	}
}

// Each number at each block that isn't full, beside one that is.
func TestEachNumberAtAnotherBlock(t *testing.T) {
	for _, block := range blocks() {
		for _, other := range blocks() {
			if other == block {
				continue
			}
			for _, state := range notFull() {
				for _, pages := range lives() {
					states, live := with(0, block, 2), with(0, block, 4)
					states[other], live[other] = state, pages
					wantChoose(t, states, live, block, nil)
					wantGain(t, states, live, 2, nil)
				}
			}
		}
	}
}

// What is chosen is full, and no full block has less live pages; none ahead of it has as few.
func TestWhatIsChosen(t *testing.T) {
	s := source(64)
	for range 5000 {
		states, live := s.states(2), s.live()
		chosen, err := gc.Choose(states, live)
		if err != nil {
			continue
		}
		if states[chosen] != 2 {
			t.Fatalf("Choose(%v, %v): %d, which isn't full", states, live, chosen)
		}
		for block := range 12 {
			if states[block] == 2 && (live[block] < live[chosen] || block < chosen && live[block] == live[chosen]) {
				t.Fatalf("Choose(%v, %v): %d, but there is %d", states, live, chosen, block)
			}
		}
	}
}
