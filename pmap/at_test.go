package pmap_test

import (
	"maps"
	"testing"

	"patina/api"
	"patina/pmap"
)

// P12.3.

// Every number from every place: it lies nowhere, and its place is empty; a second time there is none.
func TestDropOfEveryNumber(t *testing.T) {
	for _, of := range numbers() {
		for _, place := range places() {
			if !mayLie(of, place) {
				continue
			}
			m := ofLay(t, lay{of: place})
			wantDrop(t, m, of, nil)
			wantAsTold(t, m, lay{})
			wantDrop(t, m, of, api.ErrNone)
			wantAsTold(t, m, lay{})
			other := 24 - of
			if mayLie(other, place) {
				wantSet(t, m, other, place, nil)
				wantAsTold(t, m, lay{other: place})
			}
		}
	}
}

// Of a full map one after the other: those that are left stay where they lie.
func TestDropOneByOne(t *testing.T) {
	s := source(21)
	for range 20 {
		l := s.lay(25, 12)
		m := ofLay(t, l)
		for len(l) > 0 {
			of := s.below(25)
			wantDrop(t, m, of, l.drop(of))
			wantAsTold(t, m, l)
		}
	}
}

func TestDropOfWhatLiesNowhere(t *testing.T) {
	s := source(22)
	for _, many := range []int{0, 1, 12, 24} {
		l := s.lay(many, 12)
		m := ofLay(t, l)
		for _, of := range numbers() {
			if !holds(l, of) {
				wantDrop(t, m, of, api.ErrNone)
				wantAsTold(t, m, l)
			}
		}
	}
}

func TestDropOfWhatIsNot(t *testing.T) {
	s := source(23)
	for _, many := range []int{0, 12, 25} {
		l := s.lay(many, 12)
		m := ofLay(t, l)
		for _, of := range noNumbers() {
			wantDrop(t, m, of, api.ErrArg)
		}
		wantAsTold(t, m, l)
	}
}

// What was dropped may be laid again, at its elder place too.
func TestSetBehindDrop(t *testing.T) {
	m := pmap.New()
	for _, place := range []int{0, 95, 47, 95, 0} {
		wantSet(t, m, 24, place, nil)
		wantAsTold(t, m, lay{24: place})
		wantDrop(t, m, 24, nil)
		wantAsTold(t, m, lay{})
	}
}

// P12.4.

func TestAtOfWhatIsNot(t *testing.T) {
	s := source(24)
	for _, many := range []int{0, 12, 25} {
		m := ofLay(t, s.lay(many, 12))
		for _, of := range noNumbers() {
			wantNotAt(t, m, of, api.ErrArg)
		}
	}
}

func TestOwnerOfWhatIsNot(t *testing.T) {
	s := source(25)
	for _, many := range []int{0, 12, 25} {
		m := ofLay(t, s.lay(many, 12))
		for _, place := range noPlaces() {
			wantNoOwner(t, m, place, api.ErrArg)
		}
	}
}

// The number 0 at the place 0, and the last at the last, are as good as any: neither is taken for nothing.
func TestBothEnds(t *testing.T) {
	m := pmap.New()
	wantSet(t, m, 0, 0, nil)
	wantAsTold(t, m, lay{0: 0})
	wantSet(t, m, 1, 0, api.ErrState)
	wantSet(t, m, 24, 95, nil)
	wantAsTold(t, m, lay{0: 0, 24: 95})
	wantDrop(t, m, 0, nil)
	wantAsTold(t, m, lay{24: 95})
	wantDrop(t, m, 24, nil)
	wantAsTold(t, m, lay{})
}

// Behind Sets and Drops of all kinds, many to few places and few to many.
func TestAtAndOwnerBehindSetsAndDrops(t *testing.T) {
	s := source(26)
	for _, blocks := range []int{1, 2, 5, 12} {
		for range 10 {
			m, l := pmap.New(), lay{}
			for range 200 {
				s.step(t, m, l, blocks)
				wantAsTold(t, m, l)
			}
		}
	}
}

// To ask is to change nothing: no more does what is asked wrongly.
func TestAskingChangesNothing(t *testing.T) {
	s := source(27)
	for range 20 {
		l := s.lay(s.below(26), 12)
		m, kept := ofLay(t, l), maps.Clone(l)
		for range 2 {
			for _, of := range noNumbers() {
				m.At(of)
			}
			for _, place := range noPlaces() {
				m.Owner(place)
			}
			for _, block := range noBlocks() {
				m.Of(block)
			}
			wantAsTold(t, m, kept)
		}
	}
}
