package pool_test

import (
	"math"
	"slices"
	"sync"
	"testing"

	"patina/pool"
)

// R1, R3 and R4: all arguments, what is answered is new memory, and hangs on what was done with that pool alone.

func TestStatesAreACopy(t *testing.T) {
	s := source(51)
	for range 100 {
		m := table{states: s.states(6), last: s.below(12)}
		p := behindTake(t, m.last, m.states)
		told, second := p.States(), p.States()
		for i := range told {
			told[i] = 3 - told[i]
		}
		for i := range told[:cap(told)] {
			told[:cap(told)][i] = 77
		}
		_ = append(told[:3], 9, 9, 9)
		wantAsTold(t, p, m)
		if !slices.Equal(second, m.states[:]) {
			t.Fatalf("States() shares memory with another answer: %v, want %v", second, m.states)
		}
	}
}

// What was told stays as it was, whatever becomes of the pool.
func TestStatesThatWereTold(t *testing.T) {
	p := pool.New()
	told := p.States()
	wantTakes(t, p, 0, 1, 2)
	setAll(t, p, 3, 2, 5)
	setAll(t, p, 2, 11)
	if !slices.Equal(told, make([]int, 12)) {
		t.Errorf("States() of a new one, later on: %v", told)
	}
	wantStates(t, p, 1, 1, 3, 0, 0, 3, 0, 0, 0, 0, 0, 2)
}

// Twelve states, no more in spare room that is another's.
func TestStatesGrow(t *testing.T) {
	p := pool.New()
	told := append(p.States(), 4, 5, 6)
	again := append(p.States(), 7, 8, 9)
	if !slices.Equal(told[12:], []int{4, 5, 6}) || !slices.Equal(again[12:], []int{7, 8, 9}) {
		t.Errorf("States() with more behind: %v, %v", told, again)
	}
	wantTakes(t, p, blocks()...)
}

func TestEachPoolIsItsOwn(t *testing.T) {
	s := source(52)
	var pools [6]*pool.Pool
	var told [6]table
	for i := range pools {
		pools[i], told[i] = pool.New(), newTable()
	}
	for range 3000 {
		i := s.below(6)
		step(t, pools[i], &told[i], &s, 80)
		if t.Failed() {
			return
		}
	}
	for i := range pools {
		wantAsTold(t, pools[i], told[i])
	}
	wantAsTold(t, pool.New(), newTable())
}

// All calls at all ends of their arguments, of pools of all kinds: each ends, with the chapter's answer.
func TestAllArgumentsAtTheirEnds(t *testing.T) {
	ends := []int{math.MinInt, math.MinInt + 1, -1, 0, 3, 4, 11, 12, math.MaxInt - 1, math.MaxInt}
	s := source(53)
	for range 40 {
		m := table{states: s.states(4), last: s.below(12)}
		p := behindTake(t, m.last, m.states)
		for _, a := range ends {
			if _, err := p.State(a); (err == nil) != (a >= 0 && a < 12) {
				t.Errorf("State(%d): %v", a, err)
			}
			if got, want := p.Count(a), m.count(a); got != want {
				t.Errorf("Count(%d): %d, want %d", a, got, want)
			}
			for _, b := range ends {
				wantSet(t, p, a, b, m.set(a, b))
				wantAsTold(t, p, m)
			}
		}
	}
}

// Two pools with which the same was done answer alike, at one time too.
func TestAnswersHangOnWhatWasDone(t *testing.T) {
	var wait sync.WaitGroup
	for range 8 {
		wait.Add(1)
		go func() {
			defer wait.Done()
			s := source(54)
			p, m := pool.New(), newTable()
			for range 500 {
				want, wantErr := m.take()
				got, err := p.Take()
				block, state := s.below(12), s.below(3)
				if got != want || err != wantErr || p.Set(block, state) != m.set(block, state) || !slices.Equal(p.States(), m.states[:]) {
					t.Errorf("Take(): %d, %v, want %d, %v; States(): %v, want %v", got, err, want, wantErr, p.States(), m.states)
					return
				}
			}
		}()
	}
	wait.Wait()
}
