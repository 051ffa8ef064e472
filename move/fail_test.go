package move_test

import (
	"slices"
	"testing"

	"patina/api"
	"patina/gc"
	"patina/nand"
	"patina/point"
)

// Failures, at every step of a call, and several in one.

// wantStands holds a disk behind a deed that may have met failures: it was done, or, with too many blocks bad, its sector is as it was.
func wantStands(d *disk, e deed, wasBad int, err error) {
	d.Helper()
	retiring := err == api.ErrWornOut && wasBad == 2
	if err != nil && (err != api.ErrWornOut || d.badOrFailed() <= 2 && !retiring) {
		d.Fatalf("%s: %v, the states are %v", e.name, err, states(d))
	}
	if n := d.badOrFailed(); n > 2 != d.isWorn() && d.knowing {
		d.Fatalf("%s: %d blocks are bad or have failed, the states are %v", e.name, n, states(d))
	}
	d.wantRest()
	d.wantAll()
}

// goOn does all kinds of calls behind it, and finds the chip again.
func goOn(d *disk, s *source) {
	d.Helper()
	if d.isWorn() {
		wantDead(d.T, d.chip, d.core)
	}
	for turn := range 12 {
		d.turn(s, 700+turn)
	}
	d.wantAll()
	if !d.again() {
		d.Fatal("the power went")
	}
	d.wantRest()
	d.wantAll()
}

// harm makes a block fail: at the write behind so many, or, if these are below 0, at its next erase.
type harm struct{ block, after int }

func (h harm) doTo(chip *nand.Chip) {
	if h.after < 0 {
		chip.FailErase(h.block)
		return
	}
	chip.FailProgram(h.block, h.after)
}

// harmsOf are the harms by which each step that was done between two sights of a chip fails, one at a time: each write of a chunk, each erase. An erase of what was erased can't be seen: erased are the blocks of which this is known.
func harmsOf(was, is *nand.Chip, erased []int) []harm {
	var list []harm
	for block := range 12 {
		writes, gone := 0, slices.Contains(erased, block)
		for place := 8 * block; place < 8*block+8; place++ {
			for chunk := range 4 {
				_, before, _ := was.Truth(place, chunk)
				_, behind, _ := is.Truth(place, chunk)
				if behind && !before {
					writes++
				}
				gone = gone || before && !behind
			}
		}
		for after := range writes {
			list = append(list, harm{block, after})
		}
		if gone {
			list = append(list, harm{block, -1})
		}
	}
	return list
}

// harmed does a deed on a ground that some harm was done to, and tells which harm more would meet it.
func harmed(t *testing.T, g ground, e deed, done ...harm) (*disk, []harm) {
	t.Helper()
	d := set(t, g, e)
	for _, h := range done {
		h.doTo(d.chip)
	}
	was, bad := d.chip.Clone(), count(d.view().States, api.Bad)
	var erased []int
	if e.name == "clean" {
		erased = nextFree(d, 0)
	}
	wantStands(d, e, bad, e.done(d))
	return d, harmsOf(was, d.chip, erased)
}

// A failure at every step of each deed on each ground; and behind some of them a second one, at a step of what is done then.
func TestFailureAtEachStep(t *testing.T) {
	t.Parallel()
	for _, g := range grounds() {
		t.Run(g.name, func(t *testing.T) {
			t.Parallel()
			s := source(len(g.name))
			once, twice := 0, 0
			for _, e := range deeds() {
				_, first := harmed(t, g, e)
				for i, h := range first {
					d, second := harmed(t, g, e, h)
					if !failedOf(d.chip)[h.block] {
						t.Fatalf("%s: %+v wasn't met", e.name, h)
					}
					once++
					if i%3 == 0 {
						goOn(d, &s)
					}
					for j, more := range second {
						if (i+j)%13 > 0 || more.block == h.block {
							continue
						}
						d, _ := harmed(t, g, e, h, more)
						twice++
						if j%2 == 0 {
							goOn(d, &s)
						}
					}
				}
			}
			if once < 100 || twice < 50 && g.name != "two are bad" {
				t.Errorf("only %d failures, and %d second ones", once, twice)
			}
		})
	}
}

// Several blocks that fail in one call.
func TestSeveralFailures(t *testing.T) {
	t.Parallel()
	for i, g := range grounds() {
		t.Run(g.name, func(t *testing.T) {
			t.Parallel()
			s := source(i)
			met := [13]int{}
			for turn := range 400 {
				e := deeds()[turn%len(deeds())]
				d := set(t, g, e)
				for range 2 + s.below(5) {
					if block := s.below(12); s.below(4) == 0 {
						d.chip.FailErase(block)
					} else {
						d.chip.FailProgram(block, []int{0, 0, s.below(8), s.below(30)}[s.below(4)])
					}
				}
				bad := count(d.view().States, api.Bad)
				wantStands(d, e, bad, e.done(d))
				many := 0
				for _, failed := range failedOf(d.chip) {
					if failed {
						many++
					}
				}
				met[many]++
				if turn%5 == 0 {
					goOn(d, &s)
				}
			}
			if met[1] == 0 || met[2] == 0 && g.name != "two are bad" {
				t.Errorf("so many failures were met in one call: %v", met)
			}
		})
	}
}

// All blocks fail at their first write and at their erase: whatever is done, all is read as before.
func TestAllFail(t *testing.T) {
	t.Parallel()
	for _, g := range grounds() {
		for _, e := range deeds() {
			for _, erases := range []bool{false, true} {
				d := set(t, g, e)
				for block := range 12 {
					d.chip.FailErase(block)
					if !erases {
						d.chip.FailProgram(block, 0)
					}
				}
				bad := count(d.view().States, api.Bad)
				wantStands(d, e, bad, e.done(d))
				s := source(5)
				goOn(d, &s)
			}
		}
	}
}

// Failures one by one, until it is worn out: up to two nothing is to be seen of them.
func TestFailuresUntilWornOut(t *testing.T) {
	t.Parallel()
	for start := range 15 {
		s := source(start)
		d := newDisk(t)
		d.fill(0)
		for turn := 0; !d.isWorn(); turn++ {
			if turn%40 == 39 {
				d.chip.FailProgram(s.below(12), s.below(10))
			}
			if turn%40 == 19 {
				d.chip.FailErase(s.below(12))
			}
			d.turn(&s, turn)
			if turn > 4000 {
				t.Fatal("it is never worn out")
			}
		}
		d.wantAll()
		wantDead(t, d.chip, d.core)
		d.wantAll()
	}
}

// The frontier fails, and so does the block that it is copied into: this is told in a free block of its own, not in the one that failed; then comes the next try.
func TestWhereTheFrontierAndItsCopyFail(t *testing.T) {
	for after := range 8 {
		d := started(t)
		d.quick(3, 3)
		d.quick(4, 4)
		d.chip.FailProgram(0, 1)
		d.chip.FailProgram(1, after)
		steps := d.chip.Steps()
		d.put(5, 5)
		v := d.view()
		if v.States != [12]int{api.Bad, api.Bad, api.Full, api.Open} || v.Live[3] != 24 || v.Live[4] != 25 || v.Live[24] != 26 || v.Live[5] != 27 {
			t.Fatalf("View(): %+v", v)
		}
		if k := pointAt(t, d.chip, 16); k.Bad != [12]bool{1: true} {
			t.Fatalf("the checkpoint at 16 is %+v", k)
		}
		if k := pointAt(t, d.chip, 26); k.Bad != [12]bool{0: true, 1: true} {
			t.Fatalf("the checkpoint at 26 is %+v", k)
		}
		// Two writes of the frontier, those of its copy, a checkpoint, and four pages.
		if n := d.chip.Steps() - steps; n != 2+after+1+4+16 || taken(d, 2) != 1 {
			t.Fatalf("%d steps", n)
		}
		d.wantAll()
	}
}

// The erase of the frontier fails, and the commit that would tell it does, too.
func TestWhereTheEraseAndTheCommitFail(t *testing.T) {
	for chunk := range 4 {
		d := started(t)
		d.quick(3, 3)
		d.chip.FailErase(0)
		d.chip.FailProgram(1, 8+chunk)
		steps := d.chip.Steps()
		d.vacate(0, false)
		v := d.view()
		if v.States != [12]int{api.Bad, api.Bad, api.Full, api.Open} || v.Live[3] != 24 || v.Live[24] != 25 || v.Moves != 2 {
			t.Fatalf("View(): %+v", v)
		}
		if k := pointAt(t, d.chip, 16); k.Bad != [12]bool{1: true} {
			t.Fatalf("the checkpoint at 16 is %+v", k)
		}
		// Two copies, the erase, what is written of the commit, a checkpoint, a copy, and the next commit.
		if n := d.chip.Steps() - steps; n != 8+1+chunk+1+4+4+4 {
			t.Fatalf("%d steps", n)
		}
		d.wantAll()
	}
}

// The third block fails where the frontier has no page any more: no other block is opened for what can't be told.
func TestNoBlockIsOpenedWhenWornOut(t *testing.T) {
	d := withBad(t, 2)
	for taken(d, d.open()) < 8 {
		d.note()
	}
	was := d.view()
	to := nextFree(d, d.open())[0]
	d.chip.FailProgram(to, 2)
	if err := d.core.Vacate(d.view().Live[23]/8, false); err != api.ErrWornOut {
		t.Fatalf("Vacate: %v", err)
	}
	was.States[to] = api.Bad
	if v := d.view(); v.States != was.States || v.Live != was.Live {
		t.Errorf("the states are %v, want %v", v.States, was.States)
	}
	wantDead(t, d.chip, d.core)
	d.wantAll()
}

// crowded is a core with a page in each block but some, and the chip, on which these lie. No mount finds such a chip: fewer blocks are free than must be.
func crowded(t *testing.T, free int) *disk {
	t.Helper()
	d := &disk{T: t, chip: nand.New()}
	k := api.Checkpoint{Next: 1}
	l := []api.Found{found(0, 24, 1, 0)}
	data, err := point.Write(k)
	if err != nil {
		t.Fatal(err)
	}
	pageAt(t, d.chip, l[0], data)
	for of := range 24 {
		f := found(of%(12-free)*8+1+of/(12-free), of, int64(of+2), 0)
		l = append(l, f)
		d.want[of] = text(of, of)
		pageAt(t, d.chip, f, d.want[of])
	}
	d.core = begun(t, d.chip, k, l)
	if err := d.core.Clean(); err != nil {
		t.Fatal(err)
	}
	return d
}

// With few free blocks, or none, what can't be done is ErrWornOut, and nothing is lost.
func TestWithFewFreeBlocks(t *testing.T) {
	d := crowded(t, 0)
	steps := d.chip.Steps()
	if d.core.Put(3, text(3, 99)) != api.ErrWornOut || d.core.Note() != api.ErrWornOut || d.core.Vacate(1, false) != api.ErrWornOut || d.chip.Steps() != steps {
		t.Error("no block is free, and something was programmed")
	}
	d.wantAll()
	// With one free block all goes on, over and over.
	d = crowded(t, 1)
	for turn := range 200 {
		d.quick(turn*7%24, turn)
		d.wantAll()
	}
	// With two, of which one fails as it is copied into: the other one is taken to tell it, and there is none for the next try.
	d = crowded(t, 2)
	was := d.view()
	d.chip.FailProgram(10, 5)
	if err := d.core.Vacate(3, false); err != api.ErrWornOut {
		t.Errorf("Vacate(3): %v", err)
	}
	if v := d.view(); v.States[10] != api.Bad || v.States[11] != api.Open || v.Live[24] != 88 || v.Moves != 0 || v.States[3] != was.States[3] {
		t.Errorf("View(): %+v", v)
	}
	d.wantAll()
	// A frontier that fails, and can't be moved any more: from then on nothing is programmed or erased.
	d = crowded(t, 1)
	d.quick(3, 50)
	for range 2 {
		d.chip.FailProgram(d.open(), 0)
		if err := d.core.Put(4, text(4, 51)); err == nil {
			d.want[4] = text(4, 51)
		} else if err != api.ErrWornOut {
			t.Fatalf("Put(4): %v", err)
		}
		d.wantAll()
	}
	if count(d.view().States, api.Bad) != 2 || count(d.view().States, api.Free) != 0 {
		t.Fatalf("View(): %+v", d.view())
	}
	for of := range 24 {
		d.wantQuiet(func() {
			if d.core.Put(of, text(of, 60)) != api.ErrWornOut || d.core.Trim(of) != api.ErrWornOut || d.core.Clean() != nil {
				t.Fatal("a block failed that can't be told, and something was programmed")
			}
		})
	}
	d.wantAll()
}

// The last seq is used by what is moved to make room: there is none for the sector, which stays as it was.
func TestTheLastSeqIsUsedOnTheWay(t *testing.T) {
	first := started(t).brimming().view().Next
	d := &disk{T: t, chip: nand.New(), counted: true, knowing: true}
	d.core = begun(t, d.chip, api.Checkpoint{Next: maxSeq - (first - 1)}, nil)
	if err := d.core.Clean(); err != nil {
		t.Fatal(err)
	}
	d.brimming()
	was := d.view()
	if was.Next != maxSeq {
		t.Fatalf("Next is %d", was.Next)
	}
	block, err := gc.Choose(fulls(was), livesList(was))
	if err != nil {
		t.Fatal(err)
	}
	d.chip.FailErase(block)
	if err := d.core.Put(3, text(3, 99)); err != api.ErrWornOut {
		t.Fatalf("Put(3): %v", err)
	}
	v := d.view()
	if v.States[block] != api.Bad || v.Next != maxSeq || v.Live[3] < 0 {
		t.Errorf("View(): %+v", v)
	}
	if tag, _ := tagAt(d.chip, v.Live[24]); tag.Seq != maxSeq {
		t.Errorf("the checkpoint has %+v", tag)
	}
	d.wantRest()
	d.wantAll()
}

// fulls are the states, with the frontier as full as the others.
func fulls(v api.View) []int {
	list := slices.Clone(v.States[:])
	for block, state := range list {
		if state == api.Open {
			list[block] = api.Full
		}
	}
	return list
}

// livesList is how much counts in each block.
func livesList(v api.View) []int {
	live := livesOf(v)
	return live[:]
}
