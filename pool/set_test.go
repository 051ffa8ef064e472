package pool_test

import (
	"testing"

	"patina/api"
	"patina/pool"
)

// P11.3.

// Of each block every state to every state, those beside it as they were.
func TestSetOfEveryStateToEveryState(t *testing.T) {
	s := source(11)
	for _, block := range blocks() {
		for _, old := range states() {
			for _, state := range states() {
				m := table{states: s.states(6), last: -1}
				m.states[block] = old
				p := ofStates(t, m.states)
				if old == 3 && state != 3 {
					wantSet(t, p, block, state, api.ErrState)
				} else {
					wantSet(t, p, block, state, nil)
					m.states[block] = state
				}
				wantAsTold(t, p, m)
			}
		}
	}
}

// A state is laid again and again: it is the same.
func TestSetOfTheStateThatIs(t *testing.T) {
	for _, state := range states() {
		p := pool.New()
		for range 3 {
			setAll(t, p, state, 5)
			if got := p.Count(state); state != 0 && got != 1 || state == 0 && got != 12 {
				t.Errorf("Count(%d): %d", state, got)
			}
		}
	}
}

func TestSetOfABadBlock(t *testing.T) {
	for _, block := range blocks() {
		p, m := pool.New(), newTable()
		wantSet(t, p, block, 3, nil)
		m.states[block] = 3
		for range 2 {
			wantSet(t, p, block, 0, api.ErrState)
			wantSet(t, p, block, 1, api.ErrState)
			wantSet(t, p, block, 2, api.ErrState)
			wantSet(t, p, block, 3, nil)
			wantAsTold(t, p, m)
		}
	}
}

// Without such a block, or such a state, or both: nothing is changed, whatever the blocks are.
func TestSetOfWhatIsNot(t *testing.T) {
	s := source(12)
	for range 20 {
		m := table{states: s.states(4), last: s.below(12)}
		p := behindTake(t, m.last, m.states)
		for _, block := range noBlocks() {
			for _, state := range append(states(), noStates()...) {
				wantSet(t, p, block, state, api.ErrArg)
			}
		}
		// Of those that are bad ErrArg comes ahead of ErrState.
		for _, block := range blocks() {
			for _, state := range noStates() {
				wantSet(t, p, block, state, api.ErrArg)
			}
		}
		wantAsTold(t, p, m)
	}
}

// Behind a Set that was refused Take goes on from where it stood.
func TestARefusedSetIsNoTake(t *testing.T) {
	p := pool.New()
	wantTakes(t, p, 0, 1, 2)
	setAll(t, p, 3, 8)
	setAll(t, p, 0, 0, 1, 2)
	wantSet(t, p, 8, 0, api.ErrState)
	wantSet(t, p, 8, 1, api.ErrState)
	wantSet(t, p, 12, 1, api.ErrArg)
	wantSet(t, p, 10, 4, api.ErrArg)
	wantTakes(t, p, 3, 4, 5, 6, 7, 9, 10, 11, 0, 1, 2)
	wantFull(t, p)
}

// A block that is set open wasn't taken.
func TestAnOpenedBlockIsNoTake(t *testing.T) {
	p := pool.New()
	setAll(t, p, 1, 4)
	wantTakes(t, p, 0, 1)
	setAll(t, p, 1, 9, 0)
	wantTakes(t, p, 2, 3, 5)
}
