package front_test

import (
	"math"
	"testing"

	"patina/api"
	"patina/front"
)

// What the chapter says, told without the program.

// stand is how a Front stands: its block, -1 where there is none, and the index of its next page.
type stand struct{ block, index int }

// nowhere is a Front without a block.
var nowhere = stand{block: -1}

// open is P13.1.
func (s *stand) open(block, index int) error {
	if block < 0 || block > 11 || index < 0 || index > 8 {
		return api.ErrArg
	}
	*s = stand{block, index}
	return nil
}

// room is P13.3: a sector lies in the first six pages of a block, the checkpoint in all eight.
func (s stand) room(of int) bool {
	switch {
	case s.block == -1 || of < 0 || of > 24:
		return false
	case of == 24:
		return s.index <= 7
	default:
		return s.index <= 5
	}
}

// take is P13.4.
func (s *stand) take(of int) (int, error) {
	switch {
	case of < 0 || of > 24:
		return 0, api.ErrArg
	case s.block == -1:
		return 0, api.ErrNone
	case s.index == 8 || of != 24 && s.index > 5:
		return 0, api.ErrFull
	}
	place := 8*s.block + s.index
	s.index++
	return place, nil
}

// upTo are the numbers from nought on, so many.
func upTo(many int) []int {
	var out []int
	for n := range many {
		out = append(out, n)
	}
	return out
}

func numbers() []int { return upTo(25) }

func blocks() []int { return upTo(12) }

func indexes() []int { return upTo(9) }

// stands are all ways in which a Front may stand.
func stands() []stand {
	out := []stand{nowhere}
	for _, block := range blocks() {
		for _, index := range indexes() {
			out = append(out, stand{block, index})
		}
	}
	return out
}

// outside are numbers that aren't among the first so many: those next to them, some that are among them once they are cut down to fewer bits, both ends of their type.
func outside(many int) []int {
	return []int{
		math.MinInt, math.MinInt + 1, math.MinInt32, -1 << 32, -256, -96, -25, -24, -12, -9, -8, -2, -1,
		many, many + 1, 2 * many, 128, 255, 256, 257, 1 << 16, 1<<31 - 1, 1 << 32, 1<<32 + 1, 1 << 61, 1 << 62, math.MaxInt - 1, math.MaxInt,
	}
}

func noNumbers() []int { return outside(25) }

func noBlocks() []int { return outside(12) }

func noIndexes() []int { return outside(9) }

// standing is a new Front that stands so.
func standing(t *testing.T, s stand) *front.Front {
	t.Helper()
	f := &front.Front{}
	if s != nowhere {
		wantOpen(t, f, s.block, s.index, nil)
	}
	return f
}

// wantAsTold asks Fronts that were made alike for everything: one for all that changes nothing, twice, and for each Take one of its own, with what is behind it.
func wantAsTold(t *testing.T, made func() *front.Front, s stand) {
	t.Helper()
	f := made()
	wantStands(t, f, s)
	wantStands(t, f, s)
	for _, of := range append(numbers(), noNumbers()...) {
		f, behind := made(), s
		place, err := behind.take(of)
		wantTake(t, f, of, place, err)
		wantStands(t, f, behind)
	}
	if t.Failed() {
		t.Fatalf("it was to stand so: %+v", s)
	}
}

// wantStands asks a Front for everything that doesn't change it. By Block and Room an index below 6 is as good as any other: wantRest tells them apart.
func wantStands(t *testing.T, f *front.Front, s stand) {
	t.Helper()
	wantBlock(t, f, s.block)
	for _, of := range append(numbers(), noNumbers()...) {
		wantRoom(t, f, of, s.room(of))
	}
}

// wantRest takes all pages that a Front has left, for the checkpoint, and asks for one more.
func wantRest(t *testing.T, f *front.Front, s stand) {
	t.Helper()
	wantStands(t, f, s)
	for range 9 {
		place, err := s.take(24)
		wantTake(t, f, 24, place, err)
		wantStands(t, f, s)
	}
}

func wantOpen(t *testing.T, f *front.Front, block, index int, want error) {
	t.Helper()
	if err := f.Open(block, index); err != want {
		t.Errorf("Open(%d, %d): %v, want %v", block, index, err, want)
	}
}

func wantBlock(t *testing.T, f *front.Front, want int) {
	t.Helper()
	if got := f.Block(); got != want {
		t.Errorf("Block(): %d, want %d", got, want)
	}
}

func wantRoom(t *testing.T, f *front.Front, of int, want bool) {
	t.Helper()
	if got := f.Room(of); got != want {
		t.Errorf("Room(%d): %v, want %v", of, got, want)
	}
}

func wantTake(t *testing.T, f *front.Front, of, want int, wrong error) {
	t.Helper()
	if place, err := f.Take(of); place != want || err != wrong {
		t.Errorf("Take(%d): %d, %v, want %d, %v", of, place, err, want, wrong)
	}
}

// source gives numbers that hang on its start alone.
type source uint64

func (s *source) next() uint64 {
	*s = *s*6364136223846793005 + 1442695040888963407
	return uint64(*s) >> 31
}

func (s *source) below(n int) int { return int(s.next() % uint64(n)) }

func (s *source) of(list []int) int { return list[s.below(len(list))] }

// step is a call of any kind, mostly with arguments that are there; the answer is as told.
func (s *source) step(t *testing.T, f *front.Front, told *stand) {
	t.Helper()
	of, block, index := s.below(25), s.below(12), s.below(9)
	switch s.below(16) {
	case 0:
		of, block = s.of(noNumbers()), s.of(noBlocks())
	case 1:
		of, index = s.of(noNumbers()), s.of(noIndexes())
	}
	if s.below(2) == 0 {
		of = 24
	}
	was := *told
	switch s.below(12) {
	case 0:
		wantOpen(t, f, block, index, told.open(block, index))
	case 1:
		f.Close()
		*told = nowhere
	case 2:
		wantRoom(t, f, of, told.room(of))
	default:
		place, err := told.take(of)
		wantTake(t, f, of, place, err)
	}
	wantBlock(t, f, told.block)
	if t.Failed() {
		t.Fatalf("ahead of that it stood so: %+v", was)
	}
}
