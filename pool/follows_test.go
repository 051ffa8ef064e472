package pool_test

import (
	"testing"

	"patina/pool"
)

// P11.7.

// change is a Take or a Set of any block and state, of those that aren't there too; one Set in so many is of a bad block, or of no state.
func (s *source) change(p *pool.Pool, bad int) {
	if s.below(3) == 0 {
		p.Take()
		return
	}
	state := s.below(3)
	if s.below(bad) == 0 {
		state = 3 + s.below(2)
	}
	p.Set(s.below(14)-1, state)
}

func TestCountsAreTwelveTogether(t *testing.T) {
	s := source(41)
	for range 40 {
		p := pool.New()
		for range 200 {
			if got := p.Count(0) + p.Count(1) + p.Count(2) + p.Count(3); got != 12 {
				t.Fatalf("the counts of %v are %d together", p.States(), got)
			}
			s.change(p, 20)
		}
	}
}

func TestABadBlockStaysBad(t *testing.T) {
	s := source(42)
	for range 40 {
		p := pool.New()
		var bad [12]bool
		for range 300 {
			s.change(p, 30)
			for block, state := range p.States() {
				if bad[block] && state != 3 {
					t.Fatalf("the block %d was bad, and is %d now", block, state)
				}
				bad[block] = state == 3
			}
		}
	}
}

// Each block that becomes bad, whatever it was ahead of that: the bound is two less, but never below 0.
func TestTheBoundFallsByTwo(t *testing.T) {
	s := source(43)
	for range 400 {
		p := pool.New()
		for range s.below(40) {
			s.change(p, 40)
		}
		for _, block := range blocks() {
			was, wasBad := p.Bound(), p.Count(3)
			state, _ := p.State(block)
			setAll(t, p, 3, block)
			want := max(was-2, 0)
			if state == 3 {
				want = was
			}
			if got := p.Bound(); got != want || p.Worn() != (p.Count(3) > 2) || state != 3 && p.Count(3) != wasBad+1 {
				t.Fatalf("Bound() with %d bad ones: %d, want %d", p.Count(3), got, want)
			}
		}
	}
}

// Nothing but a bad block changes the bound.
func TestTheBoundStaysOtherwise(t *testing.T) {
	s := source(44)
	for range 100 {
		p := pool.New()
		for range 200 {
			was, bad := p.Bound(), p.Count(3)
			s.change(p, 60)
			if p.Count(3) == bad && p.Bound() != was {
				t.Fatalf("Bound() with %d bad ones: %d, and %d ahead of that", bad, p.Bound(), was)
			}
		}
	}
}

// Between two Takes that answer one block every other one that was free all the while is taken: one that was, and is free still, may not be.
func TestNoneIsPassedOver(t *testing.T) {
	s := source(45)
	seen := 0
	for range 60 {
		p := pool.New()
		var free [12][12]bool // of each block: which were free all the while since it was taken last
		var taken [12]bool
		for range 600 {
			block, err := -1, error(nil)
			if s.below(2) == 0 {
				if block, err = p.Take(); err != nil {
					block = -1
				}
			} else {
				p.Set(s.below(12), s.below(3)*s.below(2))
			}
			if block >= 0 && taken[block] {
				seen++
				for other, is := range free[block] {
					if is && other != block {
						t.Fatalf("the block %d was taken twice, and %d, free all the while, was not", block, other)
					}
				}
			}
			if block >= 0 {
				taken[block] = true
				for other := range free[block] {
					free[block][other] = true
				}
			}
			for i := range free {
				for other, state := range p.States() {
					free[i][other] = free[i][other] && state == 0
				}
			}
		}
	}
	if seen < 1000 {
		t.Errorf("only %d times was a block taken again", seen)
	}
}

// Blocks that are free all the while are taken ahead of one that is set free at once whenever it was taken.
func TestOneThatComesBackAtOnce(t *testing.T) {
	for _, block := range blocks() {
		p := behindTake(t, block, [12]int{})
		for step := 1; step < 12; step++ {
			wantSet(t, p, block, 0, nil)
			wantTakes(t, p, (block+step)%12)
		}
		wantTakes(t, p, block)
	}
}
