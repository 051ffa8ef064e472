package mount_test

import (
	"testing"

	"patina/api"
	"patina/nand"
)

// P18.3, where a block fails at any step of a call that is cut, or of the mount itself.

// harm makes a block fail: at the write behind so many, or, if these are below 0, at its next erase.
type harm struct{ block, after int }

func (h harm) doTo(chip *nand.Chip) {
	if h.after < 0 {
		chip.FailErase(h.block)
		return
	}
	chip.FailProgram(h.block, h.after)
}

// harmsOf are the harms by which each step that was done between two sights of a chip fails, one at a time: each write of a chunk, and each erase of what wasn't.
func harmsOf(was, is *nand.Chip) []harm {
	var list []harm
	for block := range 12 {
		writes, gone := 0, false
		for place := 8 * block; place < 8*block+8; place++ {
			for chunk := range 4 {
				_, before, _ := was.Truth(place, chunk)
				_, behind, _ := is.Truth(place, chunk)
				if behind && !before {
					writes++
				}
				gone = gone || before && !behind
			}
		}
		for after := range writes {
			list = append(list, harm{block, after})
		}
		if gone {
			list = append(list, harm{block, -1})
		}
	}
	return list
}

// harmsOfDeed are the harms that meet a deed.
func harmsOfDeed(t *testing.T, g ground, e deed) []harm {
	t.Helper()
	d := set(t, g, e)
	was := d.chip.Clone()
	if err := e.do(d); err != nil && err != api.ErrWornOut {
		t.Fatalf("%s: %v", e.name, err)
	}
	return harmsOf(was, d.chip)
}

// oneIn: of these cuts one in so many is tried. All of them, with all their mounts, take too long for each run.
const oneIn = 41

// A block fails at any step of a deed, and the power goes at any step of it, ahead of the failure, at it, or behind it.
func TestCutsOfCallsInWhichABlockFails(t *testing.T) {
	t.Parallel()
	for _, g := range grounds() {
		t.Run(g.name, func(t *testing.T) {
			t.Parallel()
			tries := 0
			for i, e := range deeds() {
				for j, h := range harmsOfDeed(t, g, e) {
					for budget := (i + 5*j) % oneIn; ; budget += oneIn {
						d := set(t, g, e)
						h.doTo(d.chip)
						if !d.failsWithin(e, budget) {
							break
						}
						tries++
					}
				}
			}
			if tries < 25 {
				t.Errorf("only %d cuts", tries)
			}
		})
	}
}

// failsWithin is a deed that is cut, and in which a block may fail; then the mounts, the first of which may be cut, too. False: the deed was done, or given up.
func (d *disk) failsWithin(e deed, budget int) bool {
	d.Helper()
	went := d.cutDeed(e, budget)
	d.wantTold()
	if d.cutMount(budget % 9) {
		d.wantTold()
		d.chip.Power()
		d.mountAnyhow()
	}
	d.wantAll()
	d.wantRest()
	return went
}

// Behind a call in which a block failed, and that was cut, mounts are cut one after the other.
func TestMountsThatAreCutBehindAFailure(t *testing.T) {
	t.Parallel()
	s := source(5)
	gs, es := grounds(), deeds()
	tries := 0
	for tries < 60 {
		g, e := gs[s.below(len(gs))], es[s.below(len(es))]
		harms := harmsOfDeed(t, g, e)
		if len(harms) == 0 {
			continue
		}
		d := set(t, g, e)
		harms[s.below(len(harms))].doTo(d.chip)
		if !d.cutDeed(e, s.below(40)) {
			continue
		}
		tries++
		for cut := s.below(3); d.cutMount(cut); cut += 1 + s.below(3) {
			d.wantTold()
		}
		d.wantAll()
		d.wantRest()
		d.wantFound()
	}
}

// A block fails at each step of a mount, and the power goes at each step of that mount.
func TestFailuresOfMounts(t *testing.T) {
	t.Parallel()
	for _, g := range grounds()[:4] {
		t.Run(g.name, func(t *testing.T) {
			t.Parallel()
			ground := g.make(t)
			free := freeOf(ground)
			harms := [][]harm{{{free[0], -1}}, {{free[len(free)-1], -1}}}
			if count(ground.view().States, api.Bad) == 0 {
				// The first one lets a checkpoint be programmed in the next free block, which fails as well.
				for after := range 4 {
					harms = append(harms, []harm{{free[0], -1}, {free[1], after}})
				}
				harms = append(harms, []harm{{free[1], -1}, {free[2], -1}})
			}
			for _, hs := range harms {
				for budget := 0; ; budget += 2 {
					d := &disk{T: t, chip: ground.chip.Clone(), want: ground.want}
					for _, h := range hs {
						h.doTo(d.chip)
					}
					cut := d.cutMount(budget)
					d.wantTold()
					d.chip.Power()
					d.mountAnyhow()
					d.wantAll()
					d.wantRest()
					if !cut {
						break
					}
				}
			}
		})
	}
}

// freeOf are the free blocks.
func freeOf(d *disk) []int {
	var free []int
	for block, state := range d.view().States {
		if state == api.Free {
			free = append(free, block)
		}
	}
	return free
}

// Of a chip on which one block too many has failed nothing is promised but that it is read: so it is mounted, over and over.
func TestMountsOfAChipThatFailsMoreAndMore(t *testing.T) {
	t.Parallel()
	for start := range 6 {
		s := source(start)
		d := newDisk(t)
		d.fill(0)
		for turn := range 40 {
			d.chip.FailProgram(s.below(12), s.below(20))
			d.chip.FailErase(s.below(12))
			for range 4 {
				d.turn(&s, turn)
			}
			if turn%4 == 0 {
				d.mountAnyhow()
			}
			d.wantAll()
		}
		if !d.isWorn() {
			t.Error("it isn't worn out")
		}
	}
}
