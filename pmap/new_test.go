package pmap_test

import (
	"testing"

	"patina/api"
	"patina/pmap"
)

// The examples of the chapter's table.

func TestExampleOfABlock(t *testing.T) {
	m := pmap.New()
	wantSet(t, m, 3, 9, nil)
	wantSet(t, m, 4, 8, nil)
	wantOf(t, m, 1, 4, 3)
	wantSet(t, m, 3, 0, nil)
	wantOf(t, m, 1, 4)
	wantNoOwner(t, m, 9, api.ErrNone)
}

func TestExampleOfWrongPlaces(t *testing.T) {
	m := pmap.New()
	wantSet(t, m, 24, 7, nil)
	wantSet(t, m, 2, 7, api.ErrArg)
	wantSet(t, m, 2, 6, api.ErrArg)
	wantSet(t, m, 25, 0, api.ErrArg)
	wantSet(t, m, 5, 7, api.ErrArg)
}

func TestExampleOfDrop(t *testing.T) {
	m := pmap.New()
	wantSet(t, m, 1, 0, nil)
	wantSet(t, m, 2, 0, api.ErrState)
	wantDrop(t, m, 2, api.ErrNone)
	wantDrop(t, m, 1, nil)
	wantNotAt(t, m, 1, api.ErrNone)
}

// P12.1.

func TestANewMap(t *testing.T) {
	m := pmap.New()
	if m == nil {
		t.Fatal("New(): nil")
	}
	for of := range 25 {
		wantNotAt(t, m, of, api.ErrNone)
		wantDrop(t, m, of, api.ErrNone)
	}
	for place := range 96 {
		wantNoOwner(t, m, place, api.ErrNone)
	}
	for block := range 12 {
		wantOf(t, m, block)
	}
	wantLive(t, m, 0, 0, 0, 0, 0, 0, 0, 0, 0, 0, 0, 0)
}

// The second one is as empty as the first, whatever lies in that.
func TestANewMapBesideAnother(t *testing.T) {
	s := source(1)
	l := s.lay(25, 12)
	first := ofLay(t, l)
	wantAsTold(t, pmap.New(), lay{})
	wantAsTold(t, first, l)
}
