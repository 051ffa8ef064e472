package pmap_test

import (
	"testing"

	"patina/pmap"
)

// P12.6, by the map's own answers alone.

// wantSound asks a map whether its answers agree with each other.
func wantSound(t *testing.T, m *pmap.Map) {
	t.Helper()
	lying, owned, owners := 0, 0, map[int]int{}
	for _, of := range numbers() {
		place, err := m.At(of)
		if err != nil {
			continue
		}
		lying++
		if owner, err := m.Owner(place); owner != of || err != nil {
			t.Fatalf("Owner(At(%d)): %d, %v", of, owner, err)
		}
		if other, twice := owners[place]; twice {
			t.Fatalf("the page %d carries %d and %d", place, other, of)
		}
		owners[place] = of
	}
	for _, place := range places() {
		of, err := m.Owner(place)
		if err != nil {
			continue
		}
		owned++
		if at, err := m.At(of); at != place || err != nil {
			t.Fatalf("the number %d lies at %d, and At tells %d, %v", of, place, at, err)
		}
	}
	if owned != lying {
		t.Fatalf("%d numbers lie somewhere, and %d pages carry one", lying, owned)
	}
	wantCounts(t, m, lying)
}

// wantCounts asks whether the counts are those of so many numbers, each that of Of, and whether Of tells each of them once.
func wantCounts(t *testing.T, m *pmap.Map, lying int) {
	t.Helper()
	counts, sum, told := m.Live(), 0, map[int]int{}
	if len(counts) != 12 {
		t.Fatalf("Live() tells of %d blocks", len(counts))
	}
	for _, block := range blocks() {
		in, err := m.Of(block)
		if err != nil || len(in) != counts[block] {
			t.Fatalf("Of(%d): %v, %v, and Live() tells %d", block, in, err, counts[block])
		}
		sum += counts[block]
		for _, of := range in {
			if at, err := m.At(of); err != nil || at/8 != block {
				t.Fatalf("Of(%d) tells %d, which lies at %d, %v", block, of, at, err)
			}
			told[of]++
			if told[of] > 1 {
				t.Fatalf("Of tells %d twice", of)
			}
		}
	}
	if sum != lying {
		t.Fatalf("the counts of Live are %d together, and %d numbers lie somewhere", sum, lying)
	}
}

// Sets and Drops of all kinds: wholly within few blocks, where most Sets are refused, and in all.
func TestAnswersAgree(t *testing.T) {
	s := source(41)
	for _, blocks := range []int{1, 3, 4, 12} {
		for range 20 {
			m, l := pmap.New(), lay{}
			wantSound(t, m)
			for range 300 {
				s.step(t, m, l, blocks)
				wantSound(t, m)
			}
		}
	}
}

// As many as there may be: all 25 lie somewhere, and each is moved on to each free page.
func TestAnswersAgreeOfAFullMap(t *testing.T) {
	s := source(42)
	l := s.lay(25, 12)
	m := ofLay(t, l)
	for _, of := range numbers() {
		for _, place := range places() {
			wantSet(t, m, of, place, l.set(of, place))
			wantSound(t, m)
			if len(l) != 25 {
				t.Fatal("a number is gone")
			}
		}
	}
}

// A block is emptied into another, page by page, as a move does.
func TestABlockIsMoved(t *testing.T) {
	for _, from := range blocks() {
		to := (from + 5) % 12
		m := pmap.New()
		for index := range 6 {
			wantSet(t, m, 2*index, 8*from+index, nil)
		}
		wantSet(t, m, 24, 8*from+7, nil)
		in, _ := m.Of(from)
		for i, of := range in {
			wantSet(t, m, of, 8*to+i, nil)
			wantSound(t, m)
		}
		wantOf(t, m, from)
		wantOf(t, m, to, in...)
	}
}
