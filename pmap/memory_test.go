package pmap_test

import (
	"math"
	"slices"
	"sync"
	"testing"

	"patina/pmap"
)

// R1, R3 and R4: all arguments, what is answered is new memory, and hangs on what was done with that map alone.

// spoil changes a list, its spare room too.
func spoil(list []int) {
	for i := range list {
		list[i] = 24 - list[i]
	}
	_ = append(list[:len(list)/2], 9, 9, 9)
	for i := range list[:cap(list)] {
		list[:cap(list)][i] = 77
	}
}

func TestOfAndLiveAreNew(t *testing.T) {
	s := source(51)
	for range 60 {
		l := s.lay(s.below(26), 5+s.below(8))
		m := ofLay(t, l)
		for _, block := range blocks() {
			first, _ := m.Of(block)
			second, _ := m.Of(block)
			spoil(first)
			if !slices.Equal(second, l.in(block)) {
				t.Fatalf("Of(%d) shares memory with another answer: %v, want %v", block, second, l.in(block))
			}
		}
		first, second := m.Live(), m.Live()
		spoil(first)
		if !slices.Equal(second, l.live()) {
			t.Fatalf("Live() shares memory with another answer: %v, want %v", second, l.live())
		}
		wantAsTold(t, m, l)
	}
}

// What was told stays as it was, whatever becomes of the map.
func TestWhatWasTold(t *testing.T) {
	m := ofLay(t, lay{7: 8, 3: 9, 24: 15, 0: 40})
	in, _ := m.Of(1)
	live := m.Live()
	wantSet(t, m, 7, 41, nil)
	wantSet(t, m, 3, 10, nil)
	wantSet(t, m, 9, 8, nil)
	wantDrop(t, m, 24, nil)
	if !slices.Equal(in, []int{7, 3, 24}) || !slices.Equal(live, []int{0, 3, 0, 0, 0, 1, 0, 0, 0, 0, 0, 0}) {
		t.Errorf("Of(1), Live(), later on: %v, %v", in, live)
	}
}

// What is laid behind an answer is in no other's spare room.
func TestAnswersGrow(t *testing.T) {
	m := ofLay(t, lay{7: 8, 3: 9, 24: 15})
	in, _ := m.Of(1)
	again, _ := m.Of(1)
	in, again = append(in, 1, 2), append(again, 3, 4)
	live, anew := append(m.Live(), 5, 6), append(m.Live(), 7, 8)
	if !slices.Equal(in[3:], []int{1, 2}) || !slices.Equal(again[3:], []int{3, 4}) || !slices.Equal(live[12:], []int{5, 6}) || !slices.Equal(anew[12:], []int{7, 8}) {
		t.Errorf("answers with more behind: %v, %v, %v, %v", in, again, live, anew)
	}
	wantAsTold(t, m, lay{7: 8, 3: 9, 24: 15})
}

func TestEachMapIsItsOwn(t *testing.T) {
	s := source(52)
	var made [6]*pmap.Map
	var told [6]lay
	for i := range made {
		made[i], told[i] = pmap.New(), lay{}
	}
	for range 3000 {
		i := s.below(6)
		s.step(t, made[i], told[i], 6)
	}
	for i := range made {
		wantAsTold(t, made[i], told[i])
	}
	wantAsTold(t, pmap.New(), lay{})
}

// All calls at all ends of their arguments, of maps of all kinds: each ends, with the chapter's answer.
func TestAllArgumentsAtTheirEnds(t *testing.T) {
	ends := []int{math.MinInt, math.MinInt + 1, -1, 0, 5, 6, 7, 11, 12, 23, 24, 25, 88, 95, 96, math.MaxInt - 1, math.MaxInt}
	s := source(53)
	for range 10 {
		l := s.lay(s.below(26), 12)
		m := ofLay(t, l)
		for _, a := range ends {
			if _, err := m.At(a); (err == nil) != holds(l, a) {
				t.Errorf("At(%d): %v", a, err)
			}
			if _, err := m.Owner(a); (err == nil) != (l.owner(a) != -1) {
				t.Errorf("Owner(%d): %v", a, err)
			}
			if _, err := m.Of(a); (err == nil) != (a >= 0 && a < 12) {
				t.Errorf("Of(%d): %v", a, err)
			}
			for _, b := range ends {
				wantSet(t, m, a, b, l.set(a, b))
				wantAsTold(t, m, l)
			}
			wantDrop(t, m, a, l.drop(a))
			wantAsTold(t, m, l)
		}
	}
}

// In whatever order the same is laid, the answers are the same.
func TestTheOrderOfSetsIsNoMatter(t *testing.T) {
	s := source(54)
	for range 40 {
		l := s.lay(25, 12)
		left := numbers()
		m := pmap.New()
		for len(left) > 0 {
			i := s.below(len(left))
			wantSet(t, m, left[i], l[left[i]], nil)
			left = slices.Delete(left, i, i+1)
		}
		wantAsTold(t, m, l)
	}
}

// Two maps with which the same was done answer alike, at one time too.
func TestAnswersHangOnWhatWasDone(t *testing.T) {
	var wait sync.WaitGroup
	for range 8 {
		wait.Go(func() {
			s := source(55)
			m, l := pmap.New(), lay{}
			for range 500 {
				of, place, drop := s.below(26), s.below(48), s.below(26)
				if m.Set(of, place) != l.set(of, place) || m.Drop(drop) != l.drop(drop) || !slices.Equal(m.Live(), l.live()) {
					t.Errorf("behind Set(%d, %d), Drop(%d): Live(): %v, want %v", of, place, drop, m.Live(), l.live())
					return
				}
			}
		})
	}
	wait.Wait()
}
