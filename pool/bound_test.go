package pool_test

import (
	"testing"

	"patina/pool"
)

// P11.5.

// Of each number of blocks from none to twelve, each state.
func TestCountOfEachState(t *testing.T) {
	for _, state := range states() {
		for _, other := range states() {
			if other == state || other == 3 {
				continue
			}
			p := pool.New()
			setAll(t, p, other, blocks()...)
			for many, block := range blocks() {
				if got := p.Count(state); got != many {
					t.Errorf("Count(%d): %d, want %d", state, got, many)
				}
				if got := p.Count(other); got != 12-many {
					t.Errorf("Count(%d): %d, want %d", other, got, 12-many)
				}
				setAll(t, p, state, block)
			}
			if got := p.Count(state); got != 12 {
				t.Errorf("Count(%d): %d, want 12", state, got)
			}
		}
	}
}

func TestCountOfWhatIsNoState(t *testing.T) {
	s := source(31)
	pools := []*pool.Pool{pool.New()}
	for range 20 {
		pools = append(pools, ofStates(t, s.states(3)))
	}
	for _, p := range pools {
		for _, state := range noStates() {
			if got := p.Count(state); got != 0 {
				t.Errorf("Count(%d): %d, want 0", state, got)
			}
		}
	}
}

func TestCountFollowsTakes(t *testing.T) {
	p := pool.New()
	for taken := range 12 {
		if free, open := p.Count(0), p.Count(1); free != 12-taken || open != taken {
			t.Errorf("Count(Free), Count(Open) behind %d Takes: %d, %d", taken, free, open)
		}
		wantTakes(t, p, taken)
	}
	if free, open := p.Count(0), p.Count(1); free != 0 || open != 12 {
		t.Errorf("Count(Free), Count(Open) behind all Takes: %d, %d", free, open)
	}
}

// P11.6.

// By how many are bad, with all others free: from none to twelve.
func TestBoundByBadBlocks(t *testing.T) {
	bounds := []int{5, 3, 1, 0, 0, 0, 0, 0, 0, 0, 0, 0, 0}
	p := pool.New()
	for bad, bound := range bounds {
		wantBound(t, p, bound, bad < 12, bad > 2)
		if bad < 12 {
			setAll(t, p, 3, (bad*5)%12)
		}
	}
}

// With each number of bad blocks, and each number of free ones: spare is more than the bound, not as many.
func TestSpareAtTheBound(t *testing.T) {
	bounds := []int{5, 3, 1, 0, 0, 0, 0, 0, 0, 0, 0, 0, 0}
	for bad, bound := range bounds {
		for free := 0; free+bad <= 12; free++ {
			var states [12]int
			for block := range states {
				switch {
				case block < bad:
					states[block] = 3
				case block < 12-free:
					states[block] = 1 + block%2
				}
			}
			wantBound(t, ofStates(t, states), bound, free >= bound+1, bad >= 3)
		}
	}
}

// The same told one by one, of the bounds that aren't 0, and of that of a worn table.
func TestSpareOneMoreAndOneLess(t *testing.T) {
	for _, c := range []struct {
		bad, free, bound int
		spare            bool
	}{
		{0, 4, 5, false}, {0, 5, 5, false}, {0, 6, 5, true},
		{1, 2, 3, false}, {1, 3, 3, false}, {1, 4, 3, true},
		{2, 0, 1, false}, {2, 1, 1, false}, {2, 2, 1, true},
		{3, 0, 0, false}, {3, 1, 0, true}, {12, 0, 0, false},
	} {
		p := pool.New()
		setAll(t, p, 2, blocks()...)
		setAll(t, p, 3, blocks()[:c.bad]...)
		setAll(t, p, 0, blocks()[12-c.free:]...)
		wantBound(t, p, c.bound, c.spare, c.bad > 2)
	}
}

// Open and full blocks are no matter to the bound, and each Take takes one of those that may be spared.
func TestSpareFollowsTakes(t *testing.T) {
	p := pool.New()
	for taken := range 12 {
		wantBound(t, p, 5, taken < 7, false)
		wantTakes(t, p, taken)
		setAll(t, p, 1+taken%2, taken)
	}
	wantBound(t, p, 5, false, false)
}

// Which blocks are bad is no matter, only how many.
func TestBoundOfEverySetOfBadBlocks(t *testing.T) {
	for set := 0; set < 4096; set++ {
		m := newTable()
		for block := range m.states {
			if set>>block&1 == 1 {
				m.states[block] = 3
			}
		}
		wantAsTold(t, ofStates(t, m.states), m)
	}
}

// A block is made bad again: it is counted once.
func TestBoundOfOneMadeBadAgain(t *testing.T) {
	p := pool.New()
	for range 5 {
		setAll(t, p, 3, 7)
		wantBound(t, p, 3, true, false)
	}
	p.Set(7, 0)
	p.Set(7, 2)
	wantBound(t, p, 3, true, false)
}
