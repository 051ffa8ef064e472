package world_test

import (
	"testing"

	"patina/api"
	"patina/nand"
	"patina/world"
)

// P22.3: the marks of the sectors.

// markWith is the mark of a sector whose page has so many turned bytes in a chunk of data.
func markWith(many int) int {
	switch {
	case many > 4:
		return api.Gone
	case many > 2:
		return api.Weak
	}
	return api.Whole
}

// only are marks of which one sector's is given, all others Whole.
func only(of, mark int) (marks [24]int) {
	marks[of] = mark
	return marks
}

// Each sector, each chunk of data, byte by byte.
func TestMarks(t *testing.T) {
	t.Parallel()
	var steps []api.Step
	for of := range 24 {
		steps = append(steps, step(2, of, of))
	}
	base := append([]api.Step{step(4)}, steps...)
	for of := range 24 {
		w := behind(base)
		v, _ := w.View()
		for many := 1; many <= 6; many++ {
			w.Do(flipOf(v.Live[of], of%3, many))
			if l := w.Look(); l.Marks != only(of, markWith(many)) || l.Broken || l.Worn {
				t.Fatalf("the sector %d with %d turned bytes: %+v", of, many, l)
			}
		}
	}
}

// It is one chunk that counts, not all of them together; bytes, not bits; and the tag's not at all.
func TestWhatIsCountedForMarks(t *testing.T) {
	w := behind([]api.Step{step(4), step(2, 3, 3)})
	want := func(mark int) {
		t.Helper()
		if l := w.Look(); l.Broken || l.Marks != only(3, mark) {
			t.Errorf("Look: %+v", l)
		}
	}
	for chunk := range 4 {
		for bit := range 16 {
			w.Do(step(6, 1, 512*chunk+40+bit))
		}
	}
	want(api.Whole)
	for chunk := range 3 {
		for i := range 2 {
			w.Do(step(6, 1, 512*chunk+80+8*i))
		}
	}
	want(api.Weak)
	w.Do(step(6, 1, 1024+160))
	want(api.Gone)
	// A tag that was turned beyond what is borne is no mark's business.
	w.Do(step(2, 3, 4))
	want(api.Whole)
	for i := range 9 {
		w.Do(flipOf(2, 3, i))
	}
	if l := w.Look(); !l.Broken || l.Marks != only(3, api.Whole) {
		t.Errorf("Look: %+v", l)
	}
}

// The page that counts is asked, no other: not one that was passed over, erased, cut off, copied, nor the checkpoint.
func TestMarksOfPagesThatDoNotCount(t *testing.T) {
	t.Parallel()
	w := behind(mixed(t))
	g := seen(w.Chip())
	for place := range 96 {
		for chunk := range 3 {
			for i := 0; i < 7 && g.numberAt(place) < 0; i++ {
				w.Do(flipOf(place, chunk, i))
			}
		}
	}
	if l := w.Look(); l != (api.Look{On: true}) {
		t.Errorf("Look: %+v", l)
	}
	for i := range 5 {
		w.Do(flipOf(g.live[24], 0, i))
	}
	if l := w.Look(); l.Marks != [24]int{} || !l.Broken {
		t.Errorf("Look: %+v", l)
	}
}

// A mark stays: behind reads, that move the page and lose its bytes, behind mounts, and where the bytes are turned back.
func TestMarksStay(t *testing.T) {
	for many := 3; many <= 5; many++ {
		mark := markWith(many)
		s := mounted(t)
		s.must(step(2, 3, 3))
		s.must(step(2, 4, 4))
		s.hurt(1, 1, many)
		s.hurt(1, 1, many)
		s.hurt(1, 1, many)
		wantMark := func(behind string) {
			t.Helper()
			if got := s.w.Look().Marks; got != only(3, mark) {
				t.Fatalf("behind %s: the marks are %v", behind, got)
			}
		}
		wantMark("the flips")
		s.want(step(1, 3), api.ErrMedia)
		wantMark("a read")
		if v := s.view(); v.Live[3] == 1 {
			t.Fatal("it wasn't moved")
		}
		for range 20 {
			s.want(step(1, 3), api.ErrMedia)
			s.must(step(2, 4, 5))
		}
		wantMark("reads and writes")
		s.must(step(9, 1))
		s.want(step(2, 4, 6), api.ErrPower)
		s.restart()
		s.want(step(1, 3), api.ErrMedia)
		wantMark("a mount")
		s.want(step(2, -1, 6), api.ErrArg)
		s.want(step(3, 24, 6), api.ErrArg)
		wantMark("refused calls")
	}
}

// A Write or a Trim of that sector that answers 0 makes it Whole, and no other step does: not one of another sector, nor one that answers an error, be it done or not.
func TestWhatMakesWhole(t *testing.T) {
	for _, kind := range []int{2, 3} {
		weak := func() *scene {
			s := mounted(t)
			s.must(step(2, 3, 3))
			s.must(step(2, 4, 4))
			s.hurt(1, 0, 3)
			s.hurt(2, 0, 5)
			return s
		}
		both := only(3, api.Weak)
		both[4] = api.Gone
		want := func(s *scene, marks [24]int) {
			t.Helper()
			if got := s.w.Look().Marks; got != marks {
				s.fail("the marks are %v, want %v", got, marks)
			}
		}
		s := weak()
		s.must(step(kind, 5, 5))
		want(s, both)
		s.must(step(kind, 3, 5))
		want(s, only(4, api.Gone))
		s.must(step(kind, 4, 5))
		want(s, [24]int{})

		// Cut off ahead of its last chunk.
		for budget := range 4 {
			s = weak()
			s.must(step(9, budget))
			s.want(step(kind, 3, 5), api.ErrPower)
			want(s, both)
			s.restart()
			want(s, both)
		}
		// Not mounted, and refused.
		s.must(step(9, 0))
		s.want(step(2, 9, 9), api.ErrPower)
		s.want(step(kind, 3, 5), api.ErrNotMounted)
		s.want(step(kind, 4, 5), api.ErrNotMounted)
		want(s, both)

		// Worn out.
		s = weak()
		for block := range 12 {
			s.must(step(7, block, 0))
		}
		s.want(step(kind, 3, 5), api.ErrWornOut)
		s.want(step(kind, 4, 5), api.ErrWornOut)
		want(s, both)
	}
}

// What makes a sector Whole makes it so from then on: a page that turns anew is marked anew.
func TestMarkedAnew(t *testing.T) {
	s := mounted(t)
	for turn := range 12 {
		s.must(step(2, 3, turn))
		if m := s.w.Look().Marks; m != [24]int{} {
			t.Fatalf("the marks are %v", m)
		}
		many := 2 + turn%4
		s.hurt(s.view().Live[3], turn%3, many)
		if m := s.w.Look().Marks; m != only(3, markWith(many)) {
			t.Fatalf("the marks are %v", m)
		}
		if turn%2 == 0 {
			s.must(step(3, 3))
			if m := s.w.Look().Marks; m != [24]int{} {
				t.Fatalf("the marks are %v", m)
			}
		}
	}
}

// A write that was cut off behind its tag counts: the elder page's mark stays all the same, since that write answered an error.
func TestMarksOfAWriteThatWasCut(t *testing.T) {
	s := mounted(t)
	s.must(step(2, 3, 3))
	s.hurt(1, 0, 4)
	s.must(step(9, 4))
	s.must(step(2, 3, 5))
	if m := s.w.Look().Marks; m != [24]int{} {
		t.Errorf("the marks are %v", m)
	}
	s.hurt(s.view().Live[3], 0, 4)
	s.must(step(10))
	// The eighth call notes its cursor: behind the four chunks of the write its checkpoint is cut off.
	for s.view().Calls != 7 {
		s.must(step(1, 20))
	}
	s.must(step(9, 4))
	s.want(step(2, 3, 6), api.ErrPower)
	s.restart()
	if m := s.w.Look().Marks; m != only(3, api.Weak) {
		t.Errorf("the marks are %v", m)
	}
	if b := s.must(step(1, 3)); b[0] != 6 {
		t.Errorf("the sector reads as %v", b)
	}
}

// P22.3: Worn.

// Blocks that have failed, and no others: what is only to fail hasn't.
func TestWornByFailedBlocks(t *testing.T) {
	for first := range 12 {
		w := world.New()
		for i := range 3 {
			block := (first + 5*i) % 12
			w.Do(step(7, block, 0))
			w.Do(step(8, block))
			if w.Look().Worn {
				t.Fatal("it is worn by what is to be")
			}
			if i%2 == 0 {
				w.Chip().Erase(block)
			} else {
				w.Chip().Write(8*block, 0, make([]byte, 64))
			}
			w.Chip().Erase(block)
			w.Do(step(11))
			if got := w.Look().Worn; got != (i == 2) {
				t.Fatalf("%d blocks have failed: Worn is %v", i+1, got)
			}
		}
	}
}

// Blocks that are bad by the checkpoint, and that have failed: a block that is both is one.
func TestWornByBothKinds(t *testing.T) {
	for bad := range 1 << 5 {
		for failed := range 1 << 5 {
			k := api.Checkpoint{Next: 5}
			many := 0
			w := world.New()
			for i := range 5 {
				block := 2*i + 2
				if bad>>i&1 == 1 {
					k.Bad[block] = true
				}
				if failed>>i&1 == 1 {
					w.Chip().FailErase(block)
					w.Chip().Erase(block)
				}
				many += (bad | failed) >> i & 1
			}
			program(t, w.Chip(), 0, pointed(t, 0, 5, k))
			w.Do(step(5))
			if l := w.Look(); l != (api.Look{On: true, Worn: many > 2}) {
				t.Fatalf("bad %v, failed %05b: %+v", k.Bad, failed, l)
			}
		}
	}
}

// Only the newest checkpoint tells which are bad.
func TestWornByTheNewestCheckpoint(t *testing.T) {
	three := api.Checkpoint{Next: 5, Bad: [12]bool{3: true, 4: true, 5: true}}
	if w := over(t, map[int]page{0: pointed(t, 0, 5, three)}); !w.Look().Worn {
		t.Error("three are bad")
	}
	if w := over(t, map[int]page{0: pointed(t, 0, 5, three), 8: pointed(t, 8, 6, api.Checkpoint{Next: 6})}); w.Look().Worn {
		t.Error("the elder one is asked")
	}
	// It lies in a block that it tells as bad: it is the newest all the same.
	if w := over(t, map[int]page{24: pointed(t, 24, 5, three)}); !w.Look().Worn {
		t.Error("three are bad, its own block one of them")
	}
	if w := over(t, map[int]page{0: changed(pointed(t, 0, 5, three), func(p *page) { p[2] = nil })}); w.Look().Worn {
		t.Error("it isn't a checkpoint")
	}
}

// Worn stays, also where nothing tells of bad blocks any more.
func TestWornStays(t *testing.T) {
	three := api.Checkpoint{Next: 5, Bad: [12]bool{3: true, 4: true, 5: true}}
	w := over(t, map[int]page{0: pointed(t, 0, 5, three)})
	w.Chip().Erase(0)
	for _, e := range w.Run([]api.Step{step(5), step(4), step(2, 3, 3), step(1, 3), step(9, 0), step(3, 3), step(10), step(4), step(12)}) {
		if !e.Look.Worn {
			t.Fatalf("behind %v it isn't Worn any more", e.Step)
		}
		if e.Reply.Code == api.ErrWornOut {
			t.Fatalf("%v: the chip isn't as new", e.Step)
		}
	}
	// Worn behind a step alone: what others do and undo ahead of it isn't seen.
	w = world.New()
	program(t, w.Chip(), 0, pointed(t, 0, 5, three))
	w.Chip().Erase(0)
	w.Do(step(5))
	if w.Look().Worn {
		t.Error("what was undone is seen")
	}
}

// In a device's own life: two blocks that fail, or are retired, are borne, the third wears it.
func TestWornByAndBy(t *testing.T) {
	t.Parallel()
	for start := range 4 {
		s := mounted(t)
		s.fill(start)
		for i := range 3 {
			if s.look.Worn {
				t.Fatalf("%d blocks: it is worn", i)
			}
			block := s.view().Live[5*i+start] / 8
			if (i+start)%2 == 0 {
				s.must(step(8, block))
				s.must(step(7, block, 0))
			}
			// Three reports retire it, or its erase fails.
			for report := 0; report < 3 && s.view().States[block] != api.Bad && !s.look.Worn; report++ {
				s.reportOnce(block)
			}
			if i < 2 && s.view().States[block] != api.Bad {
				t.Fatalf("the block %d isn't bad: %+v", block, s.view())
			}
		}
		if (start+2)%2 == 0 && !s.look.Worn {
			t.Errorf("three blocks: it isn't worn: %+v", s.view())
		}
		s.wantAll()
	}
}

// reportOnce writes until some sector lies in a block, turns two bytes of it, and reads it.
func (s *scene) reportOnce(block int) {
	s.Helper()
	for turn := 0; turn < 400; turn++ {
		v := s.view()
		for of := range 24 {
			if v.Live[of]/8 == block && v.Live[of] >= 0 {
				s.hurt(v.Live[of], turn%4, 2)
				s.must(step(1, of))
				return
			}
		}
		s.do(step(2, turn%24, turn))
	}
	s.fail("nothing comes to lie in the block %d", block)
}

// P22.3: On and Mounted.

func TestOnAndMounted(t *testing.T) {
	for _, c := range []struct {
		steps       []api.Step
		on, mounted bool
	}{
		{nil, true, false},
		{[]api.Step{step(1, 0), step(5), step(11)}, true, false},
		{[]api.Step{step(4)}, true, true},
		{[]api.Step{step(4), step(4)}, true, true},
		{[]api.Step{step(4), step(9, 0)}, true, true},
		{[]api.Step{step(4), step(9, 0), step(1, 0)}, true, true},
		{[]api.Step{step(4), step(9, 0), step(2, 0, 0)}, false, false},
		{[]api.Step{step(4), step(2, 0, 0), step(9, 0), step(3, 0)}, false, false},
		{[]api.Step{step(4), step(9, 4), step(2, 0, 0)}, true, true},
		{[]api.Step{step(4), step(9, 3), step(2, 0, 0)}, false, false},
		{[]api.Step{step(4), step(9, 3), step(2, 0, 0), step(1, 0), step(4), step(9, 5), step(5)}, false, false},
		{[]api.Step{step(4), step(9, 3), step(2, 0, 0), step(10)}, true, false},
		{[]api.Step{step(4), step(9, 3), step(2, 0, 0), step(10), step(1, 0)}, true, false},
		{[]api.Step{step(4), step(9, 3), step(2, 0, 0), step(10), step(4)}, true, true},
		{[]api.Step{step(4), step(9, 3), step(2, 0, 0), step(10), step(9, 5), step(4)}, false, false},
		{[]api.Step{step(4), step(9, 3), step(2, 0, 0), step(10), step(9, 11), step(4)}, true, true},
		{[]api.Step{step(9, 15), step(4)}, false, false},
		{[]api.Step{step(9, 16), step(4)}, true, true},
		{[]api.Step{step(4), step(10), step(9, 0), step(10), step(2, 0, 0)}, true, true},
		{[]api.Step{step(4), step(2, 24, 0), step(1, -1), step(3, 99), step(6, 96), step(9, -1)}, true, true},
	} {
		if l := behind(c.steps).Look(); l != (api.Look{On: c.on, Mounted: c.mounted}) {
			t.Errorf("behind %v: %+v", c.steps, l)
		}
	}
}

// The power is off, and nobody has told the device: it is mounted until a call answers ErrPower, of a Read as well.
func TestMountedUntilACallTells(t *testing.T) {
	for _, call := range []api.Step{step(1, 0), step(2, 0, 0), step(3, 0), step(1, 5), step(3, 5)} {
		w := behind([]api.Step{step(4), step(2, 0, 3)})
		off(t, w.Chip())
		for _, s := range []api.Step{step(5), step(4), step(1, 24), step(2, -1), step(9, 3), step(6, 50, 3), step(11)} {
			w.Do(s)
			if l := w.Look(); l != (api.Look{Mounted: true}) {
				t.Fatalf("behind %v: %+v", s, l)
			}
		}
		if r := w.Do(call); r.Code != api.ErrPower || w.Look() != (api.Look{}) {
			t.Errorf("%v: %v, %+v", call, r, w.Look())
		}
	}
}

// off takes a chip's power.
func off(t *testing.T, chip *nand.Chip) {
	t.Helper()
	chip.Cut(0)
	chip.Erase(11)
	if chip.On() {
		t.Fatal("the power is on")
	}
}
