package pool_test

import (
	"math"
	"slices"
	"testing"

	"patina/api"
	"patina/pool"
)

// What the chapter says, told without the program.

// table is how a pool stands: the blocks' states, and which was taken last (-1: none).
type table struct {
	states [12]int
	last   int
}

func newTable() table { return table{last: -1} }

// set is P11.3.
func (m *table) set(block, state int) error {
	if !slices.Contains(blocks(), block) || !slices.Contains(states(), state) {
		return api.ErrArg
	}
	if m.states[block] == 3 && state != 3 {
		return api.ErrState
	}
	m.states[block] = state
	return nil
}

// take is P11.4: it goes on from the one that was taken last, which it meets again as the twelfth.
func (m *table) take() (int, error) {
	block := m.last
	for range 12 {
		if block++; block == 12 {
			block = 0
		}
		if m.states[block] == 0 {
			m.states[block] = 1
			m.last = block
			return block, nil
		}
	}
	return 0, api.ErrFull
}

// count is P11.5.
func (m *table) count(state int) int {
	many := 0
	for _, s := range m.states {
		if s == state {
			many++
		}
	}
	return many
}

// bound is what the chapter tells of it: 5, 3, 1, 0.
func (m *table) bound() int {
	return map[int]int{0: 5, 1: 3, 2: 1}[m.count(3)]
}

// blocks are all that there are.
func blocks() []int { return []int{0, 1, 2, 3, 4, 5, 6, 7, 8, 9, 10, 11} }

// states are all that there are: free, open, full, bad.
func states() []int { return []int{0, 1, 2, 3} }

// noBlocks are numbers that are no block's.
func noBlocks() []int {
	return []int{math.MinInt, math.MinInt + 1, math.MinInt32, -256, -13, -12, -11, -2, -1, 12, 13, 14, 23, 24, 95, 255, 256, 268, 1 << 32, 1<<32 + 1, math.MaxInt32, math.MaxInt - 1, math.MaxInt}
}

// noStates are numbers that are no state's.
func noStates() []int {
	return []int{math.MinInt, math.MinInt + 1, math.MinInt32, -256, -4, -3, -2, -1, 4, 5, 7, 12, 255, 256, 259, 1 << 32, 1<<32 + 3, math.MaxInt32, math.MaxInt - 1, math.MaxInt}
}

// wantAsTold asks a pool for everything that doesn't change it.
func wantAsTold(t *testing.T, p *pool.Pool, m table) {
	t.Helper()
	if got := p.States(); !slices.Equal(got, m.states[:]) {
		t.Errorf("States(): %v, want %v", got, m.states)
	}
	for block, want := range m.states {
		if got, err := p.State(block); got != want || err != nil {
			t.Errorf("State(%d): %d, %v, want %d", block, got, err, want)
		}
	}
	for state := range 4 {
		if got, want := p.Count(state), m.count(state); got != want {
			t.Errorf("Count(%d): %d, want %d", state, got, want)
		}
	}
	wantBound(t, p, m.bound(), m.count(0) > m.bound(), m.count(3) >= 3)
}

// wantBound asks for Bound, Spare and Worn.
func wantBound(t *testing.T, p *pool.Pool, bound int, spare, worn bool) {
	t.Helper()
	if b, s, w := p.Bound(), p.Spare(), p.Worn(); b != bound || s != spare || w != worn {
		t.Errorf("Bound, Spare, Worn: %d, %v, %v, want %d, %v, %v, of %v", b, s, w, bound, spare, worn, p.States())
	}
}

// wantStates asks for the states of all blocks.
func wantStates(t *testing.T, p *pool.Pool, want ...int) {
	t.Helper()
	if got := p.States(); !slices.Equal(got, want) {
		t.Errorf("States(): %v, want %v", got, want)
	}
}

// wantSet asks Set for what it answers.
func wantSet(t *testing.T, p *pool.Pool, block, state int, want error) {
	t.Helper()
	if err := p.Set(block, state); err != want {
		t.Errorf("Set(%d, %d): %v, want %v", block, state, err, want)
	}
}

// wantTakes asks Take for blocks, one behind the other, and for each whether it is open then.
func wantTakes(t *testing.T, p *pool.Pool, want ...int) {
	t.Helper()
	for i, block := range want {
		got, err := p.Take()
		if got != block || err != nil {
			t.Fatalf("Take(), the %d. time: %d, %v, want %d", i, got, err, block)
		}
		if state, err := p.State(block); state != 1 || err != nil {
			t.Fatalf("State(%d) of one that was taken: %d, %v, want 1", block, state, err)
		}
	}
}

// wantFull asks Take where no block is free.
func wantFull(t *testing.T, p *pool.Pool) {
	t.Helper()
	if block, err := p.Take(); block != 0 || err != api.ErrFull {
		t.Errorf("Take() with no block free: %d, %v, want 0, ErrFull", block, err)
	}
}

// setAll lays a state upon blocks.
func setAll(t *testing.T, p *pool.Pool, state int, blocks ...int) {
	t.Helper()
	for _, block := range blocks {
		wantSet(t, p, block, state, nil)
	}
}

// ofStates is a new pool with these states, of which none was taken.
func ofStates(t *testing.T, states [12]int) *pool.Pool {
	t.Helper()
	p := pool.New()
	for block, state := range states {
		wantSet(t, p, block, state, nil)
	}
	return p
}

// behindTake is a new pool of which one block was taken last, and whose states are these then.
func behindTake(t *testing.T, last int, states [12]int) *pool.Pool {
	t.Helper()
	p := pool.New()
	for block := range last {
		wantSet(t, p, block, 2, nil)
	}
	wantTakes(t, p, last)
	for block, state := range states {
		wantSet(t, p, block, state, nil)
	}
	return p
}

// source gives numbers that hang on its start alone.
type source uint64

func (s *source) next() uint64 {
	*s = *s*6364136223846793005 + 1442695040888963407
	return uint64(*s) >> 31
}

func (s *source) below(n int) int { return int(s.next() % uint64(n)) }

// states are any; one in so many is bad.
func (s *source) states(many int) [12]int {
	var out [12]int
	for block := range out {
		out[block] = s.below(3)
		if s.below(many) == 0 {
			out[block] = 3
		}
	}
	return out
}
