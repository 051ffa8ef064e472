package pmap_test

import (
	"maps"
	"testing"

	"patina/api"
	"patina/pmap"
)

// P12.2.

// Every number at every place of an empty map.
func TestSetOfEveryNumberAtEveryPlace(t *testing.T) {
	for _, of := range numbers() {
		for _, place := range places() {
			m := pmap.New()
			if of < 24 && place%8 >= 6 {
				wantSet(t, m, of, place, api.ErrArg)
				wantAsTold(t, m, lay{})
				continue
			}
			wantSet(t, m, of, place, nil)
			wantAsTold(t, m, lay{of: place})
		}
	}
}

// Every number at every place of maps in which much lies already, or all.
func TestSetWhereMuchLies(t *testing.T) {
	s := source(11)
	for _, c := range []struct{ many, blocks int }{{25, 5}, {25, 12}, {11, 2}, {1, 12}} {
		full := s.lay(c.many, c.blocks)
		for _, of := range numbers() {
			for _, place := range places() {
				l := maps.Clone(full)
				m := ofLay(t, l)
				wantSet(t, m, of, place, l.set(of, place))
				wantAsTold(t, m, l)
				if t.Failed() {
					t.Fatalf("behind Set(%d, %d) of %v", of, place, full)
				}
			}
		}
	}
}

// All sectors and the checkpoint, each at each place of its kind, with none beside it that is moved.
func TestSetOfAll(t *testing.T) {
	for turn := range 12 {
		m, l := pmap.New(), lay{}
		for of := range 24 {
			place := (of/6+turn)%12*8 + of%6
			wantSet(t, m, of, place, nil)
			l[of] = place
		}
		for index := range 8 {
			place := (4+turn)%12*8 + index
			wantSet(t, m, 24, place, nil)
			l[24] = place
			wantAsTold(t, m, l)
		}
	}
}

// A sector lies in the first six pages of a block, the checkpoint in all.
func TestSetWhereASectorMayNotLie(t *testing.T) {
	m := pmap.New()
	for block := range 12 {
		for of := range 24 {
			wantSet(t, m, of, 8*block+5, nil)
			wantSet(t, m, of, 8*block+6, api.ErrArg)
			wantSet(t, m, of, 8*block+7, api.ErrArg)
			wantAt(t, m, of, 8*block+5)
			wantDrop(t, m, of, nil)
		}
	}
	for _, place := range places() {
		wantSet(t, m, 24, place, nil)
		wantAsTold(t, m, lay{24: place})
	}
}

// Numbers and places that aren't there, alone and together: nothing is changed.
func TestSetOfWhatIsNot(t *testing.T) {
	s := source(12)
	for _, many := range []int{0, 1, 13, 25} {
		l := s.lay(many, 12)
		m := ofLay(t, l)
		for _, of := range noNumbers() {
			for _, place := range append(places(), noPlaces()...) {
				wantSet(t, m, of, place, api.ErrArg)
			}
			wantAsTold(t, m, l)
		}
		for _, place := range noPlaces() {
			for _, of := range numbers() {
				wantSet(t, m, of, place, api.ErrArg)
			}
			wantAsTold(t, m, l)
		}
	}
}

// Where another number lies, every other is refused, and lies where it lay.
func TestSetWhereAnotherLies(t *testing.T) {
	for _, place := range places() {
		for _, owner := range []int{0, 7, 23, 24} {
			if !mayLie(owner, place) {
				continue
			}
			for _, of := range numbers() {
				if of == owner || !mayLie(of, place) {
					continue
				}
				elsewhere := (place/8 + 1) % 12 * 8
				m := ofLay(t, lay{owner: place})
				wantSet(t, m, of, place, api.ErrState)
				wantAsTold(t, m, lay{owner: place})
				wantSet(t, m, of, elsewhere, nil)
				wantSet(t, m, of, place, api.ErrState)
				wantAsTold(t, m, lay{owner: place, of: elsewhere})
			}
		}
	}
}

// The checkpoint lies where a sector may not, or any number where one comes that isn't there: both errors apply, ErrArg comes first.
func TestErrArgComesAheadOfErrState(t *testing.T) {
	for _, place := range places() {
		m := ofLay(t, lay{24: place})
		for of := range 24 {
			want := error(api.ErrState)
			if place%8 >= 6 {
				want = api.ErrArg
			}
			wantSet(t, m, of, place, want)
		}
		for _, of := range noNumbers() {
			wantSet(t, m, of, place, api.ErrArg)
		}
		wantAsTold(t, m, lay{24: place})
	}
}

func TestSetWhereItLiesAlready(t *testing.T) {
	for _, of := range numbers() {
		for _, place := range places() {
			if !mayLie(of, place) {
				continue
			}
			m := pmap.New()
			for range 3 {
				wantSet(t, m, of, place, nil)
			}
			wantAsTold(t, m, lay{of: place})
		}
	}
	s := source(13)
	l := s.lay(25, 6)
	m := ofLay(t, l)
	for of, place := range l {
		wantSet(t, m, of, place, nil)
		wantAsTold(t, m, l)
	}
}

// From every place to every place: the elder one is empty behind it, and another number may lie there.
func TestSetOfOneThatLayElsewhere(t *testing.T) {
	for _, of := range []int{0, 11, 23, 24} {
		for _, from := range places() {
			for _, to := range places() {
				if from == to || !mayLie(of, from) || !mayLie(of, to) {
					continue
				}
				m := ofLay(t, lay{of: from})
				wantSet(t, m, of, to, nil)
				wantNoOwner(t, m, from, api.ErrNone)
				wantAsTold(t, m, lay{of: to})
				if mayLie(5, from) {
					wantSet(t, m, 5, from, nil)
					wantAsTold(t, m, lay{of: to, 5: from})
				}
			}
		}
	}
}

// One moves on and on, and back: it leaves nothing behind.
func TestSetOnAndOn(t *testing.T) {
	m := ofLay(t, lay{0: 0, 1: 1})
	for round := range 3 {
		for _, place := range places() {
			if place < 2 {
				continue
			}
			wantSet(t, m, 24, place, nil)
			wantAsTold(t, m, lay{0: 0, 1: 1, 24: place})
		}
		wantSet(t, m, 24, round%2, api.ErrState)
		wantAsTold(t, m, lay{0: 0, 1: 1, 24: 95})
	}
}

// Two numbers change their places by way of a third place.
func TestTwoChangePlaces(t *testing.T) {
	m := ofLay(t, lay{3: 9, 4: 8})
	wantSet(t, m, 3, 8, api.ErrState)
	wantSet(t, m, 4, 9, api.ErrState)
	wantSet(t, m, 3, 40, nil)
	wantSet(t, m, 4, 9, nil)
	wantSet(t, m, 3, 8, nil)
	wantAsTold(t, m, lay{3: 8, 4: 9})
}
