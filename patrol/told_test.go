package patrol_test

import (
	"math"
	"slices"
	"testing"

	"patina/api"
	"patina/patrol"
)

// What the chapter says, told without the program.

// way is how a Patrol stands: its cursor, and its calls since they were noted.
type way struct{ cursor, calls int }

// step is P15.2: the place behind the last one, 95, is the first one, 0.
func (w *way) step() []int {
	var places []int
	for len(places) < 8 {
		places = append(places, w.cursor)
		if w.cursor == 95 {
			w.cursor = 0
		} else {
			w.cursor++
		}
	}
	w.calls++
	return places
}

// due is a part of P15.4.
func (w way) due() bool { return w.calls >= 8 }

// line are the blocks that wait, the first one ahead.
type line []int

// add is P15.5.
func (l *line) add(block int) error {
	if block < 0 || block > 11 {
		return api.ErrArg
	}
	if !slices.Contains(*l, block) {
		*l = append(slices.Clone(*l), block)
	}
	return nil
}

// next is P15.5.
func (l *line) next() (int, bool) {
	if len(*l) == 0 {
		return 0, false
	}
	first := (*l)[0]
	*l = slices.Clone((*l)[1:])
	return first, true
}

// upTo are the numbers from nought on, so many.
func upTo(many int) []int {
	var out []int
	for n := range many {
		out = append(out, n)
	}
	return out
}

func places() []int { return upTo(96) }

func blocks() []int { return upTo(12) }

// outside are numbers that aren't among the first so many: those next to them, some that are among them once they are cut down to fewer bits, both ends of their type.
func outside(many int) []int {
	return []int{
		math.MinInt, math.MinInt + 1, math.MinInt32, -1 << 32, -256, -97, -96, -95, -25, -12, -11, -8, -2, -1,
		many, many + 1, 2 * many, 128, 255, 256, 257, 1 << 16, 1<<31 - 1, 1 << 32, 1<<32 + 1, 1 << 61, 1 << 62, math.MaxInt - 1, math.MaxInt,
	}
}

func noPlaces() []int { return outside(96) }

func noBlocks() []int { return outside(12) }

// begun is a new Patrol at a place.
func begun(t *testing.T, cursor int) *patrol.Patrol {
	t.Helper()
	p, err := patrol.New(cursor)
	if p == nil || err != nil {
		t.Fatalf("New(%d): %v, %v", cursor, p, err)
	}
	return p
}

// wantNone begins where there is no place.
func wantNone(t *testing.T, cursor int) {
	t.Helper()
	if p, err := patrol.New(cursor); p != nil || err != api.ErrArg {
		t.Errorf("New(%d): %v, %v, want nil, %v", cursor, p, err, api.ErrArg)
	}
}

// wantStands asks a Patrol for everything that doesn't change it, twice: to ask is to do nothing.
func wantStands(t *testing.T, p *patrol.Patrol, w way) {
	t.Helper()
	for range 2 {
		if cursor, calls, due := p.Cursor(), p.Calls(), p.Due(); cursor != w.cursor || calls != w.calls || due != w.due() {
			t.Fatalf("Cursor(): %d, Calls(): %d, Due(): %v, want %d, %d, %v", cursor, calls, due, w.cursor, w.calls, w.due())
		}
	}
}

// wantStep goes a step, on both sides, and gives what was told.
func wantStep(t *testing.T, p *patrol.Patrol, w *way) []int {
	t.Helper()
	from, want := w.cursor, w.step()
	told := p.Step()
	if !slices.Equal(told, want) {
		t.Fatalf("Step() from %d: %v, want %v", from, told, want)
	}
	wantStands(t, p, *w)
	return told
}

// waiting is a new Queue in which these wait.
func waiting(t *testing.T, blocks ...int) *patrol.Queue {
	t.Helper()
	q := &patrol.Queue{}
	for i, block := range blocks {
		wantAdd(t, q, block, nil)
		wantLen(t, q, i+1)
	}
	return q
}

func wantAdd(t *testing.T, q *patrol.Queue, block int, want error) {
	t.Helper()
	if err := q.Add(block); err != want {
		t.Fatalf("Add(%d): %v, want %v", block, err, want)
	}
}

func wantNext(t *testing.T, q *patrol.Queue, want int, there bool) {
	t.Helper()
	if block, ok := q.Next(); block != want || ok != there {
		t.Fatalf("Next(): %d, %v, want %d, %v", block, ok, want, there)
	}
}

func wantLen(t *testing.T, q *patrol.Queue, want int) {
	t.Helper()
	if got := q.Len(); got != want {
		t.Fatalf("Len(): %d, want %d", got, want)
	}
}

// wantWait takes all that wait, with Len at each step, and asks for more behind the last one.
func wantWait(t *testing.T, q *patrol.Queue, blocks ...int) {
	t.Helper()
	for i, block := range blocks {
		wantLen(t, q, len(blocks)-i)
		wantNext(t, q, block, true)
	}
	for range 3 {
		wantLen(t, q, 0)
		wantNext(t, q, 0, false)
	}
	wantLen(t, q, 0)
}

// source gives numbers that hang on its start alone.
type source uint64

func (s *source) next() uint64 {
	*s = *s*6364136223846793005 + 1442695040888963407
	return uint64(*s) >> 31
}

func (s *source) below(n int) int { return int(s.next() % uint64(n)) }

func (s *source) of(list []int) int { return list[s.below(len(list))] }

// order are the twelve blocks in any order.
func (s *source) order() []int {
	out := blocks()
	for i := range out {
		j := i + s.below(12-i)
		out[i], out[j] = out[j], out[i]
	}
	return out
}

// walk is a call of any kind, of a Patrol; the answer is as told.
func (s *source) walk(t *testing.T, p *patrol.Patrol, w *way) {
	t.Helper()
	switch s.below(14) {
	case 0:
		p.Noted()
		w.calls = 0
		wantStands(t, p, *w)
	case 1:
		wantStands(t, p, *w)
	default:
		wantStep(t, p, w)
	}
}

// turn is a call of any kind, of a Queue; the answer is as told. Of 16 so many are Adds.
func (s *source) turn(t *testing.T, q *patrol.Queue, l *line, adds int) {
	t.Helper()
	if s.below(16) >= adds {
		block, ok := l.next()
		wantNext(t, q, block, ok)
	} else {
		block := s.below(12)
		if s.below(8) == 0 {
			block = s.of(noBlocks())
		}
		wantAdd(t, q, block, l.add(block))
	}
	wantLen(t, q, len(*l))
}
