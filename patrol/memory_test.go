package patrol_test

import (
	"math"
	"slices"
	"sync"
	"testing"

	"patina/patrol"
)

// R1, R3 and R4: all arguments, what is answered is new memory, and hangs on what was done with that object alone.

// All calls at all ends of their arguments: each ends, with the chapter's answer.
func TestAllArgumentsAtTheirEnds(t *testing.T) {
	ends := []int{math.MinInt, math.MinInt + 1, -2, -1, 0, 1, 7, 8, 10, 11, 12, 13, 94, 95, 96, 97, 1 << 32, 1 << 61, math.MaxInt - 1, math.MaxInt}
	q, l := &patrol.Queue{}, line{}
	for _, a := range ends {
		if a < 0 || a > 95 {
			wantNone(t, a)
		} else {
			w := way{cursor: a}
			wantStep(t, begun(t, a), &w)
		}
		for _, b := range ends {
			wantAdd(t, q, a, l.add(a))
			wantAdd(t, q, b, l.add(b))
			wantLen(t, q, len(l))
			block, ok := l.next()
			wantNext(t, q, block, ok)
		}
	}
	wantWait(t, q, l...)
}

// spoil changes all of an answer, its spare room too.
func spoil(list []int) {
	all := list[:cap(list)]
	for i := range all {
		all[i] = -77
	}
	_ = append(list[:3], 9, 9, 9)
}

// The caller may change what Step gave: no later answer is changed by it, and no earlier one.
func TestStepIsTheCallersOwn(t *testing.T) {
	for _, cursor := range places() {
		p, w := begun(t, cursor), way{cursor: cursor}
		kept := wantStep(t, p, &w)
		was := slices.Clone(kept)
		for range 30 {
			spoil(wantStep(t, p, &w))
			wantStands(t, p, w)
		}
		if !slices.Equal(kept, was) {
			t.Fatalf("Step() from %d, later on: %v, want %v", cursor, kept, was)
		}
	}
}

// Eight places, and no spare room that is another's.
func TestStepsGrow(t *testing.T) {
	p := begun(t, 0)
	first, second := p.Step(), p.Step()
	first, second = append(first, 4, 5, 6), append(second, 7, 8, 9)
	if !slices.Equal(first, []int{0, 1, 2, 3, 4, 5, 6, 7, 4, 5, 6}) || !slices.Equal(second, []int{8, 9, 10, 11, 12, 13, 14, 15, 7, 8, 9}) {
		t.Errorf("Step() with more behind: %v, %v", first, second)
	}
	wantStands(t, p, way{cursor: 16, calls: 2})
}

func TestEachPatrolIsItsOwn(t *testing.T) {
	s := source(51)
	var made [6]*patrol.Patrol
	var ways [6]way
	for i := range made {
		cursor := []int{0, 0, 95, 40, 40, 88}[i]
		made[i], ways[i] = begun(t, cursor), way{cursor: cursor}
	}
	for range 3000 {
		i := s.below(6)
		s.walk(t, made[i], &ways[i])
		for i := range made {
			wantStands(t, made[i], ways[i])
		}
	}
	wantStands(t, begun(t, 0), way{})
}

// Two of one cursor: the Steps of one, and its Noted, are none of the other's.
func TestTwoPatrolsOfOneCursor(t *testing.T) {
	for _, cursor := range places() {
		one, other := begun(t, cursor), begun(t, cursor)
		w, v := way{cursor: cursor}, way{cursor: cursor}
		for range 9 {
			wantStep(t, one, &w)
			wantStands(t, other, v)
		}
		other.Noted()
		wantStands(t, one, w)
		wantStep(t, other, &v)
		one.Noted()
		wantStands(t, other, v)
	}
}

func TestEachQueueIsItsOwn(t *testing.T) {
	s := source(52)
	var made [6]patrol.Queue
	var lines [6]line
	for range 3000 {
		i := s.below(6)
		s.turn(t, &made[i], &lines[i], 9)
		for i := range made {
			wantLen(t, &made[i], len(lines[i]))
		}
	}
	for i := range made {
		wantWait(t, &made[i], lines[i]...)
	}
	wantWait(t, &patrol.Queue{})
}

// Objects with which the same was done answer alike, at one time too.
func TestAnswersHangOnWhatWasDone(t *testing.T) {
	var wait sync.WaitGroup
	for range 8 {
		wait.Go(func() {
			s := source(53)
			p, err := patrol.New(61)
			if err != nil {
				t.Error(err)
				return
			}
			w := way{cursor: 61}
			q, l := patrol.Queue{}, line{}
			for range 2000 {
				block := s.below(14)
				if !slices.Equal(p.Step(), w.step()) || p.Cursor() != w.cursor || p.Calls() != w.calls || q.Add(block) != l.add(block) || q.Len() != len(l) {
					t.Errorf("Cursor(): %d, Calls(): %d, Len(): %d behind Add(%d), want it to stand so: %+v, %v", p.Cursor(), p.Calls(), q.Len(), block, w, l)
					return
				}
				if s.below(2) == 0 {
					continue
				}
				first, ok := q.Next()
				if want, there := l.next(); first != want || ok != there {
					t.Errorf("Next(): %d, %v, want %d, %v", first, ok, want, there)
					return
				}
			}
		})
	}
	wait.Wait()
}
