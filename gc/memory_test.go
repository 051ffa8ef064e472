package gc_test

import (
	"math"
	"slices"
	"sync"
	"testing"

	"patina/gc"
)

// R1, R3 and R4: all arguments, lists are left as they were, and an answer hangs on them alone.

// The lists and the room behind them.
func TestListsAreLeftAsTheyWere(t *testing.T) {
	s := source(71)
	for range 2000 {
		states, live := append(s.states(3), 2, 2, 5), append(s.live(), -1, 0, 9)
		wasStates, wasLive := slices.Clone(states), slices.Clone(live)
		for _, many := range []int{0, 11, 12, 13, 15} {
			gc.Choose(states[:many], live[:12])
			gc.Gain(states[:many], live[:12])
			gc.Choose(states[:12], live[:many])
			gc.Gain(states[:12], live[:many])
		}
		if !slices.Equal(states, wasStates) || !slices.Equal(live, wasLive) {
			t.Fatalf("behind the calls: %v, %v, ahead of them: %v, %v", states, live, wasStates, wasLive)
		}
	}
}

// One list handed in as both is as two alike.
func TestOneListAsBoth(t *testing.T) {
	s := source(72)
	for range 1000 {
		list := s.states(3)
		wantAsTold(t, list, list)
	}
	wantBlock(t, all(12, 2), all(12, 2), 0)
}

// Nothing is kept: behind other lists the same ones get the same answer, and a list that changed gets that of what it is now.
func TestNothingIsKept(t *testing.T) {
	s := source(73)
	states, live := s.states(2), s.live()
	states[3] = 2
	for range 2000 {
		wantAsTold(t, states, live)
		wantAsTold(t, s.states(2), s.live())
		wantAsTold(t, nil, live)
		wantAsTold(t, states, live)
		states[s.below(12)], live[s.below(12)] = s.below(4), s.of(lives())
	}
}

// Both ends of the type, at any blocks of both lists.
func TestAllArgumentsAtTheirEnds(t *testing.T) {
	ends := []int{math.MinInt, math.MinInt + 1, -1, 0, 1, 2, 3, 6, 7, math.MaxInt - 1, math.MaxInt}
	for _, many := range []int{0, 1, 11, 12, 13} {
		for _, state := range ends {
			for _, other := range ends {
				for _, pages := range ends {
					for _, rest := range ends {
						states, live := all(many, state), all(many, pages)
						for i := many / 2; i < many; i++ {
							states[i], live[i] = other, rest
						}
						wantAsTold(t, states, live)
					}
				}
			}
		}
	}
}

// Asked at one time, of the same lists.
func TestAnswersHangOnTheListsAlone(t *testing.T) {
	s := source(74)
	var states, live [][]int
	for range 400 {
		states, live = append(states, s.states(3)), append(live, s.live())
	}
	var wait sync.WaitGroup
	for range 8 {
		wait.Go(func() {
			for i := range states {
				wantAsTold(t, states[i], live[i])
			}
		})
	}
	wait.Wait()
}
