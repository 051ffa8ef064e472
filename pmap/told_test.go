package pmap_test

import (
	"maps"
	"math"
	"slices"
	"testing"

	"patina/api"
	"patina/pmap"
)

// What the chapter says, told without the program.

// lay is how a map stands: of each number that lies somewhere its place, of no other anything.
type lay map[int]int

// mayLie is what layer 4 says of it: the checkpoint everywhere, a sector in the first six pages of a block.
func mayLie(of, place int) bool {
	if !slices.Contains(numbers(), of) || !slices.Contains(places(), place) {
		return false
	}
	return of == 24 || place-place/8*8 <= 5
}

// set is P12.2.
func (l lay) set(of, place int) error {
	if !mayLie(of, place) {
		return api.ErrArg
	}
	if other := l.owner(place); other != -1 && other != of {
		return api.ErrState
	}
	l[of] = place
	return nil
}

// drop is P12.3.
func (l lay) drop(of int) error {
	if !slices.Contains(numbers(), of) {
		return api.ErrArg
	}
	if _, lies := l[of]; !lies {
		return api.ErrNone
	}
	delete(l, of)
	return nil
}

// owner is the number at a place, -1 where there is none.
func (l lay) owner(place int) int {
	for of, at := range l {
		if at == place {
			return of
		}
	}
	return -1
}

// in are the numbers in a block, by rising place.
func (l lay) in(block int) []int {
	var out []int
	for index := range 8 {
		if of := l.owner(8*block + index); of != -1 {
			out = append(out, of)
		}
	}
	return out
}

// live are the counts of all blocks.
func (l lay) live() []int {
	out := make([]int, 12)
	for _, at := range l {
		out[at/8]++
	}
	return out
}

// upTo are the numbers from nought on, so many.
func upTo(many int) []int {
	var out []int
	for n := range many {
		out = append(out, n)
	}
	return out
}

func numbers() []int { return upTo(25) }

func places() []int { return upTo(96) }

func blocks() []int { return upTo(12) }

// outside are numbers that aren't among the first so many: those next to them, some that are among them once they are cut down to fewer bits, both ends of their type.
func outside(many int) []int {
	return []int{
		math.MinInt, math.MinInt + 1, math.MinInt32, -1 << 32, -256, -96, -25, -24, -12, -8, -2, -1,
		many, many + 1, 2 * many, 128, 255, 256, 257, 1 << 16, 1<<31 - 1, 1 << 32, 1<<32 + 1, 1 << 62, math.MaxInt - 1, math.MaxInt,
	}
}

func noNumbers() []int { return outside(25) }

func noPlaces() []int { return outside(96) }

func noBlocks() []int { return outside(12) }

// wantAsTold asks a map for everything that doesn't change it.
func wantAsTold(t *testing.T, m *pmap.Map, l lay) {
	t.Helper()
	owners := slices.Repeat([]int{-1}, 96)
	for of, at := range l {
		owners[at] = of
	}
	for _, of := range numbers() {
		if at, lies := l[of]; lies {
			wantAt(t, m, of, at)
		} else {
			wantNotAt(t, m, of, api.ErrNone)
		}
	}
	for place, of := range owners {
		if of != -1 {
			wantOwner(t, m, place, of)
		} else {
			wantNoOwner(t, m, place, api.ErrNone)
		}
	}
	for _, block := range blocks() {
		in := slices.DeleteFunc(slices.Clone(owners[8*block:8*block+8]), func(of int) bool { return of == -1 })
		wantOf(t, m, block, in...)
	}
	wantLive(t, m, l.live()...)
}

func wantSet(t *testing.T, m *pmap.Map, of, place int, want error) {
	t.Helper()
	if err := m.Set(of, place); err != want {
		t.Errorf("Set(%d, %d): %v, want %v", of, place, err, want)
	}
}

func wantDrop(t *testing.T, m *pmap.Map, of int, want error) {
	t.Helper()
	if err := m.Drop(of); err != want {
		t.Errorf("Drop(%d): %v, want %v", of, err, want)
	}
}

func wantAt(t *testing.T, m *pmap.Map, of, want int) {
	t.Helper()
	if place, err := m.At(of); place != want || err != nil {
		t.Errorf("At(%d): %d, %v, want %d", of, place, err, want)
	}
}

func wantNotAt(t *testing.T, m *pmap.Map, of int, want error) {
	t.Helper()
	if place, err := m.At(of); place != 0 || err != want {
		t.Errorf("At(%d): %d, %v, want %v alone", of, place, err, want)
	}
}

func wantOwner(t *testing.T, m *pmap.Map, place, want int) {
	t.Helper()
	if of, err := m.Owner(place); of != want || err != nil {
		t.Errorf("Owner(%d): %d, %v, want %d", place, of, err, want)
	}
}

func wantNoOwner(t *testing.T, m *pmap.Map, place int, want error) {
	t.Helper()
	if of, err := m.Owner(place); of != 0 || err != want {
		t.Errorf("Owner(%d): %d, %v, want %v alone", place, of, err, want)
	}
}

func wantOf(t *testing.T, m *pmap.Map, block int, want ...int) {
	t.Helper()
	if in, err := m.Of(block); !slices.Equal(in, want) || err != nil {
		t.Errorf("Of(%d): %v, %v, want %v", block, in, err, want)
	}
}

func wantNoOf(t *testing.T, m *pmap.Map, block int) {
	t.Helper()
	if in, err := m.Of(block); len(in) != 0 || err != api.ErrArg {
		t.Errorf("Of(%d): %v, %v, want ErrArg alone", block, in, err)
	}
}

func wantLive(t *testing.T, m *pmap.Map, want ...int) {
	t.Helper()
	if got := m.Live(); !slices.Equal(got, want) {
		t.Errorf("Live(): %v, want %v", got, want)
	}
}

// ofLay is a new map that stands so.
func ofLay(t *testing.T, l lay) *pmap.Map {
	t.Helper()
	m := pmap.New()
	for of, place := range l {
		wantSet(t, m, of, place, nil)
	}
	return m
}

// source gives numbers that hang on its start alone.
type source uint64

func (s *source) next() uint64 {
	*s = *s*6364136223846793005 + 1442695040888963407
	return uint64(*s) >> 31
}

func (s *source) below(n int) int { return int(s.next() % uint64(n)) }

// lay is any in which so many numbers lie somewhere, within the first so many blocks. One block more than the sectors fill is needed, as the checkpoint may lie in their way.
func (s *source) lay(many, blocks int) lay {
	l := lay{}
	for len(l) < many {
		if of := s.below(25); !holds(l, of) {
			l.set(of, s.below(8*blocks))
		}
	}
	return l
}

func holds(l lay, of int) bool {
	_, lies := l[of]
	return lies
}

// step is a Set or a Drop, of any number and place within the first so many blocks, of some that aren't there too; the answer is as told.
func (s *source) step(t *testing.T, m *pmap.Map, l lay, blocks int) {
	t.Helper()
	of, place := s.below(25), s.below(8*blocks)
	switch s.below(20) {
	case 0:
		of = noNumbers()[s.below(len(noNumbers()))]
	case 1:
		place = noPlaces()[s.below(len(noPlaces()))]
	}
	was := maps.Clone(l)
	if s.below(4) == 0 {
		wantDrop(t, m, of, l.drop(of))
	} else {
		wantSet(t, m, of, place, l.set(of, place))
	}
	if t.Failed() {
		t.Fatalf("ahead of that it stood so: %v", was)
	}
}
