package world_test

import (
	"bytes"
	"slices"
	"sync"
	"testing"

	"patina/api"
	"patina/world"
)

// R1 to R4: nothing panics, what is handed in is neither changed nor kept, what is answered is the caller's own, and hangs on nothing else than the steps and what was done to the chip.

// What is handed in is not changed, its spare room neither, and not kept.
func TestWhatIsHandedIn(t *testing.T) {
	from := source(900)
	room := anySteps(&from, 90)
	was := slices.Clone(room)
	w := world.New()
	entries := w.Run(room[:60])
	if !slices.Equal(room, was) {
		t.Fatal("it was changed")
	}
	want := world.New().Run(was[:60])
	clear(room)
	if !sameEntries(entries, want) {
		t.Error("it was kept in the answer")
	}
	again := world.New()
	again.Run(was[:60])
	if !sameEntries(w.Run(was[60:]), again.Run(was[60:])) {
		t.Error("it was kept in the world")
	}
}

// spoil changes all that can be changed of bytes, their spare room too.
func spoil(b []byte) {
	for i := range b[:cap(b)] {
		b[:cap(b)][i] ^= 255
	}
}

// The bytes of a Reply are the caller's: changed by it the next answer is as before.
func TestRepliesAreTheCallers(t *testing.T) {
	w := world.New()
	w.Do(step(4))
	for of := range 24 {
		if of%3 > 0 {
			w.Do(step(2, of, of))
		}
	}
	for range 2 {
		for of := range 24 {
			want := make([]byte, 160)
			if of%3 > 0 {
				want = filled(of)
			}
			first, second := w.Do(step(1, of)), w.Do(step(1, of))
			spoil(first.Data)
			if !bytes.Equal(second.Data, want) {
				t.Fatalf("two answers of the sector %d share memory", of)
			}
			spoil(second.Data)
			if third := w.Do(step(1, of)); third.Code != 0 || !bytes.Equal(third.Data, want) {
				t.Fatalf("read %d: %v", of, third)
			}
		}
	}
}

// The entries of a Run are, and no two of them share anything; what is told of a world as a value is a copy.
func TestEntriesAreTheCallers(t *testing.T) {
	t.Parallel()
	from := source(910)
	l := append([]api.Step{step(4), step(2, 3, 3)}, anySteps(&from, 100)...)
	for range 8 {
		l = append(l, step(10), step(4), step(1, 3), step(1, 3), step(1, 4))
	}
	want := world.New().Run(l)
	w := world.New()
	var got []api.Entry
	for at := 0; at < len(l); at += 7 {
		part := w.Run(l[at:min(at+7, len(l))])
		got = append(got, cloneOf(part)...)
		for i := range part {
			for j := range part {
				if j != i {
					spoil(part[j].Reply.Data)
				}
			}
			if !sameEntries(part[i:i+1], got[at+i:at+i+1]) {
				t.Fatal("two entries share memory")
			}
			for j := range part {
				if j != i {
					spoil(part[j].Reply.Data)
				}
			}
		}
		for i := range part {
			spoil(part[i].Reply.Data)
		}
		clear(part[:cap(part)])
		look := w.Look()
		look.Marks[3], look.Broken, look.On = 2, !look.Broken, !look.On
		v, _ := w.View()
		v.Live[3], v.Cursor = 55, 77
	}
	if !sameEntries(got, want) {
		t.Error("what was answered was kept")
	}
}

// cloneOf are entries in memory of their own.
func cloneOf(l []api.Entry) []api.Entry {
	l = slices.Clone(l)
	for i := range l {
		l[i].Reply.Data = bytes.Clone(l[i].Reply.Data)
	}
	return l
}

// Worlds don't touch each other: one among whose steps another's are done answers as one alone; and the same steps are answered alike.
func TestWorldsAreTheirOwn(t *testing.T) {
	t.Parallel()
	for start := range 4 {
		from := source(920 + start)
		l, others := anySteps(&from, 100), anySteps(&from, 100)
		alone := world.New().Run(l)
		w, other := world.New(), world.New()
		var got []api.Entry
		for i, s := range l {
			got = append(got, w.Run([]api.Step{s})...)
			other.Do(others[i])
		}
		if !sameEntries(got, alone) {
			t.Error("it is answered otherwise")
		}
	}
}

// Several worlds are played at one time.
func TestWorldsAtOneTime(t *testing.T) {
	t.Parallel()
	from := source(940)
	l := anySteps(&from, 80)
	want := world.New().Run(l)
	got := make([][]api.Entry, 6)
	var all sync.WaitGroup
	for i := range got {
		all.Go(func() { got[i] = world.New().Run(l) })
	}
	all.Wait()
	for _, entries := range got {
		if !sameEntries(entries, want) {
			t.Error("it is answered otherwise")
		}
	}
}

// What a world answers hangs on what its chip is, not on the way by which others made it so.
func TestAnswersHangOnTheChip(t *testing.T) {
	t.Parallel()
	from := source(950)
	a, b := world.New(), world.New()
	l := anySteps(&from, 120)
	for i, s := range l {
		switch {
		case s.Kind == 6 && i%2 == 0:
			a.Do(s)
			b.Chip().Flip(s.A, s.B)
			b.Do(step(11))
		case s.Kind == 10:
			a.Do(s)
			b.Chip().Power()
			b.Do(step(10))
		default:
			a.Do(s)
			b.Do(s)
		}
		if a.Look() != b.Look() || !sameChip(a.Chip(), b.Chip()) {
			t.Fatalf("step %d, %v: %+v and %+v", i, s, a.Look(), b.Look())
		}
	}
}

// Beyond what is borne, with a chip to which anything is done: each call ends, answers a Code that its promise names, and what is seen is what a second reading tells.
func TestNothingPanics(t *testing.T) {
	t.Parallel()
	codes := map[int][]api.Code{
		1: {0, api.ErrArg, api.ErrNotMounted, api.ErrMedia, api.ErrPower},
		2: {0, api.ErrArg, api.ErrNotMounted, api.ErrWornOut, api.ErrPower},
		3: {0, api.ErrArg, api.ErrNotMounted, api.ErrWornOut, api.ErrPower},
		4: {0, api.ErrState, api.ErrPower},
		5: {0, api.ErrNotMounted},
	}
	for start := range 16 {
		from := source(960 + start)
		w := world.New()
		ghost := &scene{T: t, w: w, chip: w.Chip(), look: api.Look{On: true}}
		for i, s := range anySteps(&from, 120) {
			ghost.anyHarm(&from, start*5)
			r := w.Do(s)
			ghost.lookBehind(s, r)
			if w.Look() != ghost.look {
				t.Fatalf("step %d, %v: %+v, want %+v", i, s, w.Look(), ghost.look)
			}
			may := codes[s.Kind]
			if may == nil {
				may = []api.Code{harmCode(s)}
			}
			if !slices.Contains(may, r.Code) || (r.Data != nil) != (s.Kind == 1 && r.Code == 0) {
				t.Fatalf("step %d, %v: %v", i, s, r)
			}
			if _, err := w.View(); err != nil && err != api.ErrNotMounted {
				t.Fatal(err)
			}
		}
	}
}

// anyHarm does anything to a chip, beside the steps.
func (s *scene) anyHarm(from *source, bits int) {
	switch from.below(16) {
	case 0:
		s.chip.Erase(from.below(12))
	case 1:
		for range from.below(1 + bits) {
			s.chip.Flip(from.below(96), from.below(2048))
		}
	case 2:
		word := make([]byte, 64)
		for i := range word {
			word[i] = byte(from.below(256))
		}
		s.chip.Write(from.below(96), from.below(4), word)
	case 3:
		place := from.below(96)
		at := api.Tag{Place: place, Of: from.below(25), Seq: int64(1 + from.below(300)), Copy: from.below(4)}
		if place%8 > 5 {
			at.Of = 24
		}
		k := api.Checkpoint{Next: at.Seq, Cursor: from.below(96)}
		k.Bad[from.below(12)] = true
		k.Floors[from.below(24)] = int64(from.below(300))
		p := pointed(s.T, place, 1, k)
		for chunk, word := range laid(s.T, at, make([]byte, 174)) {
			if chunk < 3 && at.Of == 24 {
				word = p[chunk]
			}
			s.chip.Write(place, chunk, word)
		}
	case 4:
		s.chip.Power()
	}
}
