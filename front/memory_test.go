package front_test

import (
	"math"
	"sync"
	"testing"

	"patina/front"
)

// R1 and R4: all arguments, and an answer hangs on what was done with that Front alone.

// All calls at all ends of their arguments, of Fronts of all kinds: each ends, with the chapter's answer.
func TestAllArgumentsAtTheirEnds(t *testing.T) {
	ends := []int{math.MinInt, math.MinInt + 1, -2, -1, 0, 1, 5, 6, 7, 8, 9, 11, 12, 23, 24, 25, 95, 96, 1 << 32, 1 << 61, math.MaxInt - 1, math.MaxInt}
	for _, s := range stands() {
		f, told := standing(t, s), s
		for _, a := range ends {
			wantRoom(t, f, a, told.room(a))
			place, err := told.take(a)
			wantTake(t, f, a, place, err)
			for _, b := range ends {
				wantOpen(t, f, a, b, told.open(a, b))
				wantBlock(t, f, told.block)
				wantRoom(t, f, b, told.room(b))
			}
		}
		wantRest(t, f, told)
		f.Close()
		wantStands(t, f, nowhere)
	}
}

func TestEachFrontIsItsOwn(t *testing.T) {
	s := source(51)
	var made [6]front.Front
	told := [6]stand{nowhere, nowhere, nowhere, nowhere, nowhere, nowhere}
	for range 3000 {
		i := s.below(6)
		s.step(t, &made[i], &told[i])
		for i := range made {
			wantBlock(t, &made[i], told[i].block)
		}
	}
	for i := range made {
		wantRest(t, &made[i], told[i])
	}
	wantStands(t, &front.Front{}, nowhere)
}

// Two of one block: what is taken of one isn't taken of the other, and each is closed by itself.
func TestTwoFrontsOfOneBlock(t *testing.T) {
	for _, block := range blocks() {
		one, other := standing(t, stand{block, 0}), standing(t, stand{block, 0})
		for index := range 8 {
			wantTake(t, one, 24, 8*block+index, nil)
			wantRoom(t, other, 0, true)
		}
		one.Close()
		wantStands(t, one, nowhere)
		wantRest(t, other, stand{block, 0})
	}
}

// Fronts with which the same was done answer alike, at one time too.
func TestAnswersHangOnWhatWasDone(t *testing.T) {
	var wait sync.WaitGroup
	for range 8 {
		wait.Go(func() {
			s := source(52)
			f, told := front.Front{}, nowhere
			for range 2000 {
				block, index, of := s.below(40), s.below(9), s.below(26)
				if f.Open(block, index) != told.open(block, index) || f.Block() != told.block || f.Room(of) != told.room(of) {
					t.Errorf("behind Open(%d, %d): Block(): %d, Room(%d): %v, want it to stand so: %+v", block, index, f.Block(), of, f.Room(of), told)
					return
				}
				place, err := f.Take(of)
				if want, wrong := told.take(of); place != want || err != wrong {
					t.Errorf("Take(%d): %d, %v, want %d, %v", of, place, err, want, wrong)
					return
				}
			}
		})
	}
	wait.Wait()
}
