package pool_test

import (
	"testing"

	"patina/api"
	"patina/pool"
)

// The examples of the chapter's table.

func TestExampleOfTakeAndSet(t *testing.T) {
	p := pool.New()
	wantTakes(t, p, 0, 1)
	wantSet(t, p, 0, api.Free, nil)
	wantTakes(t, p, 2)
	wantSet(t, p, 2, api.Bad, nil)
	wantSet(t, p, 2, api.Free, api.ErrState)
}

func TestExampleOfANewOne(t *testing.T) {
	p := pool.New()
	if bound, spare, free, none := p.Bound(), p.Spare(), p.Count(api.Free), p.Count(7); bound != 5 || !spare || free != 12 || none != 0 {
		t.Errorf("Bound, Spare, Count(Free), Count(7) of a new one: %d, %v, %d, %d, want 5, true, 12, 0", bound, spare, free, none)
	}
}

func TestExampleOfThreeBadBlocks(t *testing.T) {
	p := pool.New()
	setAll(t, p, api.Bad, 0, 1, 2)
	if bound, worn := p.Bound(), p.Worn(); bound != 0 || !worn {
		t.Errorf("Bound, Worn with three bad ones: %d, %v, want 0, true", bound, worn)
	}
}

func TestExampleOfWrongArguments(t *testing.T) {
	p := pool.New()
	wantSet(t, p, 12, api.Free, api.ErrArg)
	wantSet(t, p, 0, 4, api.ErrArg)
	wantNoBlock(t, p, -1)
}

// wantNoBlock asks State where there is no such block.
func wantNoBlock(t *testing.T, p *pool.Pool, block int) {
	t.Helper()
	if state, err := p.State(block); state != 0 || err != api.ErrArg {
		t.Errorf("State(%d): %d, %v, want 0, ErrArg", block, state, err)
	}
}

// P11.1.

func TestANewTable(t *testing.T) {
	p := pool.New()
	if p == nil {
		t.Fatal("New(): nil")
	}
	wantAsTold(t, p, newTable())
	wantStates(t, p, 0, 0, 0, 0, 0, 0, 0, 0, 0, 0, 0, 0)
	wantTakes(t, p, blocks()...)
	wantFull(t, p)
}

// None was taken, so the last block comes first where it is the only one that is free.
func TestANewTableWithOneFree(t *testing.T) {
	for _, free := range blocks() {
		p := pool.New()
		for _, block := range blocks() {
			if block != free {
				wantSet(t, p, block, 2, nil)
			}
		}
		wantTakes(t, p, free)
		wantFull(t, p)
	}
}

// P11.2.

// Each block has a state of its own, in each of the twelve places.
func TestStatesOfAll(t *testing.T) {
	for first := range 4 {
		p, m := pool.New(), newTable()
		for _, block := range blocks() {
			state := (first + block + block/4) % 4
			wantSet(t, p, block, state, nil)
			m.states[block] = state
		}
		wantAsTold(t, p, m)
	}
	wantStates(t, ofStates(t, [12]int{3, 0, 1, 2, 2, 2, 1, 0, 3, 1, 0, 2}), 3, 0, 1, 2, 2, 2, 1, 0, 3, 1, 0, 2)
}

func TestStateOfWhatIsNoBlock(t *testing.T) {
	for _, all := range states() {
		p := pool.New()
		setAll(t, p, all, blocks()...)
		for _, block := range noBlocks() {
			wantNoBlock(t, p, block)
		}
		if got, err := p.State(11); got != all || err != nil {
			t.Errorf("State(11): %d, %v, want %d", got, err, all)
		}
	}
}

// To ask is to change nothing: no more does what is asked wrongly.
func TestAskingChangesNothing(t *testing.T) {
	s := source(1)
	for range 200 {
		m := table{states: s.states(6), last: s.below(12)}
		p := behindTake(t, m.last, m.states)
		for range 3 {
			wantAsTold(t, p, m)
			for _, block := range noBlocks() {
				wantNoBlock(t, p, block)
			}
			for _, state := range noStates() {
				p.Count(state)
			}
		}
		want, wantErr := m.take()
		if got, err := p.Take(); got != want || err != wantErr {
			t.Fatalf("Take(): %d, %v, want %d, %v", got, err, want, wantErr)
		}
		wantAsTold(t, p, m)
	}
}
