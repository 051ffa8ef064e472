package pool_test

import (
	"testing"

	"patina/api"
	"patina/pool"
)

// P11.4.

// Round and round: each that was taken is free again at once, and comes last.
func TestTakeGoesRound(t *testing.T) {
	p := pool.New()
	for range 5 {
		for _, block := range blocks() {
			wantTakes(t, p, block)
			wantSet(t, p, block, 0, nil)
		}
	}
}

// With each set of free blocks, and each that was taken last, all of them are taken, in order from behind that one on.
func TestTakeOfEverySet(t *testing.T) {
	for last := -1; last < 12; last++ {
		for set := 0; set < 4096; set++ {
			states := table{last: last}
			for block := range states.states {
				if set>>block&1 == 0 {
					states.states[block] = 1 + (block+set)%3
				}
			}
			p := pool.New()
			if last < 0 {
				p = ofStates(t, states.states)
			} else {
				p = behindTake(t, last, states.states)
			}
			for step := 1; step <= 12; step++ {
				if block := (last + step) % 12; set>>block&1 == 1 {
					wantTakes(t, p, block)
				}
			}
			wantFull(t, p)
			if p.Count(0) != 0 {
				t.Fatalf("Count(Free) of one that is full: %d", p.Count(0))
			}
		}
	}
}

// The one that was taken last is the only free one: it is taken again.
func TestTakeOfTheSameBlock(t *testing.T) {
	for _, last := range blocks() {
		var states [12]int
		for block := range states {
			states[block] = 2
		}
		states[last] = 0
		p := behindTake(t, last, states)
		for range 3 {
			wantTakes(t, p, last)
			wantFull(t, p)
			wantSet(t, p, last, 0, nil)
		}
	}
}

// With none free, of whatever states: ErrFull, and nothing is changed.
func TestTakeOfNone(t *testing.T) {
	s := source(21)
	for range 300 {
		m := table{last: s.below(12)}
		for block := range m.states {
			m.states[block] = 1 + s.below(3)
		}
		p := behindTake(t, m.last, m.states)
		for range 3 {
			wantFull(t, p)
			wantAsTold(t, p, m)
		}
		// What was taken last is the same as ahead of the refused ones.
		for block := range m.states {
			if m.states[block] != 3 {
				wantSet(t, p, block, 0, m.set(block, 0))
			}
		}
		want, wantErr := m.take()
		if got, err := p.Take(); got != want || err != wantErr {
			t.Fatalf("Take(): %d, %v, want %d, %v", got, err, want, wantErr)
		}
	}
}

// Between Takes blocks become free, full or bad, ahead of the one that was taken last and behind it.
func TestTakeOverWhatBecame(t *testing.T) {
	p := pool.New()
	wantTakes(t, p, 0, 1, 2, 3)
	setAll(t, p, 2, 4, 6)
	setAll(t, p, 3, 5)
	wantTakes(t, p, 7)
	setAll(t, p, 0, 4, 7)
	wantTakes(t, p, 8, 9)
	setAll(t, p, 3, 10)
	setAll(t, p, 0, 1)
	wantTakes(t, p, 11, 1, 4, 7)
	wantFull(t, p)
	setAll(t, p, 0, 6)
	wantTakes(t, p, 6)
	setAll(t, p, 0, 6, 0)
	wantTakes(t, p, 0)
	wantTakes(t, p, 6)
	wantFull(t, p)
}

// The one that was taken last becomes free, full or bad itself: the way goes on behind it.
func TestTakeBehindOneThatBecame(t *testing.T) {
	for _, state := range states() {
		for _, last := range blocks() {
			p := behindTake(t, last, [12]int{})
			wantSet(t, p, last, state, nil)
			for step := 1; step <= 11; step++ {
				wantTakes(t, p, (last+step)%12)
			}
			if state == 0 {
				wantTakes(t, p, last)
			}
			wantFull(t, p)
		}
	}
}

// Long ways of Takes and Sets, right and wrong ones, as the chapter tells them.
func TestLongWays(t *testing.T) {
	s := source(22)
	for range 60 {
		p, m := pool.New(), newTable()
		many := 4 + s.below(60)
		for range 400 {
			step(t, p, &m, &s, many)
			if t.Failed() {
				return
			}
		}
	}
}

// step is a Take or a Set, of both, with the same answers; one Set in so many makes a block bad.
func step(t *testing.T, p *pool.Pool, m *table, s *source, many int) {
	t.Helper()
	if s.below(3) == 0 {
		want, wantErr := m.take()
		if got, err := p.Take(); got != want || err != wantErr {
			t.Fatalf("Take(): %d, %v, want %d, %v", got, err, want, wantErr)
		}
	} else {
		block, state := s.below(12), s.below(3)
		switch s.below(many) {
		case 0:
			state = 3
		case 1:
			block = noBlocks()[s.below(len(noBlocks()))]
		case 2:
			state = noStates()[s.below(len(noStates()))]
		}
		wantSet(t, p, block, state, m.set(block, state))
	}
	wantAsTold(t, p, *m)
}

// A fault is one of the Codes itself: R2.
func TestErrorsThemselves(t *testing.T) {
	p := pool.New()
	setAll(t, p, 3, 0)
	setAll(t, p, 2, blocks()[1:]...)
	_, noBlock := p.State(12)
	_, full := p.Take()
	for got, want := range map[error]api.Code{noBlock: 1, p.Set(0, 0): 12, full: 10} {
		if code, is := got.(api.Code); !is || code != want {
			t.Errorf("%v, want the Code %d", got, int(want))
		}
	}
}
