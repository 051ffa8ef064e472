package mount_test

import (
	"bytes"
	"slices"
	"testing"

	"patina/api"
	"patina/mount"
	"patina/move"
	"patina/nand"
)

// A disk is a chip, a core over it, and what its sectors are to read as.

type disk struct {
	*testing.T
	chip   *nand.Chip
	core   *move.Core
	want   [24][]byte // nil: noughts
	harmed bool       // a block may fail at its next step
}

// newDisk is one over a new chip.
func newDisk(t *testing.T) *disk {
	t.Helper()
	d := &disk{T: t, chip: nand.New()}
	d.mount()
	return d
}

// started is one over a new chip, too, whose pages aren't read: where many are made, that takes too long.
func started(t *testing.T) *disk {
	t.Helper()
	d := &disk{T: t, chip: nand.New()}
	core, err := move.New(d.chip, api.Checkpoint{}, nil)
	if err != nil {
		t.Fatal(err)
	}
	d.core = core
	if err := d.core.Clean(); err != nil {
		t.Fatal(err)
	}
	return d
}

// over is a disk over a chip that is mounted, whatever its sectors are.
func over(t *testing.T, chip *nand.Chip) *disk {
	t.Helper()
	d := &disk{T: t, chip: chip}
	d.mount()
	return d
}

// mount mounts the chip, none of whose blocks fails then: how it stands is told by what lies there.
func (d *disk) mount() {
	d.Helper()
	want, reads := viewOf(seen(d.T, d.chip)), readsOf(d.chip)
	was := d.chip.Clone()
	d.mountAnyhow()
	v := d.view()
	if v != want {
		d.Fatalf("View() is %+v, want %+v", v, want)
	}
	d.wantOnlyErased(was, v)
	for block, many := range readsOf(d.chip) {
		state := v.States[block]
		if state >= api.Full && many != reads[block]+8 || state == api.Free && many != 0 {
			d.Fatalf("the block %d, whose state is %d, was read %d times, and %d ahead", block, state, many, reads[block])
		}
	}
}

// mountAnyhow mounts the chip, whose blocks may fail.
func (d *disk) mountAnyhow() {
	d.Helper()
	core, err := mount.Mount(d.chip)
	if core == nil || err != nil {
		d.Fatalf("Mount: %v, %v", core, err)
	}
	d.core = core
}

// cutMount mounts a chip that the power cuts behind so many steps; false: it was done within them.
func (d *disk) cutMount(budget int) bool {
	d.Helper()
	d.chip.Power()
	d.chip.Cut(budget)
	core, err := mount.Mount(d.chip)
	if d.chip.On() {
		if core == nil || err != nil {
			d.Fatalf("Mount: %v, %v", core, err)
		}
		d.core = core
		d.chip.Power()
		return false
	}
	if core != nil || err != api.ErrPower {
		d.Fatalf("Mount: %v, %v, want ErrPower", core, err)
	}
	return true
}

// wantOnlyErased holds a mount to have erased the free blocks, and, on a chip that has a checkpoint, to have left all others as they were.
func (d *disk) wantOnlyErased(was *nand.Chip, v api.View) {
	d.Helper()
	for block, state := range v.States {
		if state == api.Free && !isErased(d.chip, block) {
			d.Fatalf("the block %d is free, and not erased", block)
		}
		for place := 8 * block; place < 8*block+8 && state != api.Free && state != api.Open; place++ {
			for chunk := range 4 {
				before, _, _ := was.Truth(place, chunk)
				if now, _, _ := d.chip.Truth(place, chunk); !bytes.Equal(now, before) {
					d.Fatalf("the page %d was changed", place)
				}
			}
		}
	}
}

// view is the core's.
func (d *disk) view() api.View { return d.core.View() }

// open is the frontier's block; -1: there is none.
func (d *disk) open() int {
	v := d.view()
	return slices.Index(v.States[:], api.Open)
}

// bytesOf is what a sector is to read as.
func (d *disk) bytesOf(of int) []byte {
	if d.want[of] == nil {
		return make([]byte, 160)
	}
	return d.want[of]
}

// put puts a sector, which must be done.
func (d *disk) put(of, turn int) {
	d.Helper()
	if err := d.core.Put(of, text(of, turn)); err != nil {
		d.Fatalf("Put(%d): %v", of, err)
	}
	d.want[of] = text(of, turn)
}

// trim trims a sector, which must be done.
func (d *disk) trim(of int) {
	d.Helper()
	if err := d.core.Trim(of); err != nil {
		d.Fatalf("Trim(%d): %v", of, err)
	}
	d.want[of] = nil
}

// must is for what can't fail.
func (d *disk) must(err error) {
	d.Helper()
	if err != nil {
		d.Fatal(err)
	}
}

// fill puts all sectors, from a turn on.
func (d *disk) fill(turn int) {
	d.Helper()
	for of := range 24 {
		d.put(of, turn+of)
	}
}

// wantAll reads all sectors.
func (d *disk) wantAll() {
	d.Helper()
	for of := range 24 {
		if got, err := d.core.Get(of); err != nil || !bytes.Equal(got, d.bytesOf(of)) {
			d.Fatalf("Get(%d): %v, %v, want %v", of, got, err, d.bytesOf(of))
		}
	}
}

// wantTold holds what counts on the chip against the sectors' bytes, without a call.
func (d *disk) wantTold() {
	d.Helper()
	live := seen(d.T, d.chip).live
	for of := range 24 {
		if got := d.told(live, of); !bytes.Equal(got, d.bytesOf(of)) {
			d.Fatalf("the sector %d, at %d, has %v, want %v", of, live[of], got, d.bytesOf(of))
		}
	}
}

// told is what was programmed where a sector counts.
func (d *disk) told(live [25]int, of int) []byte {
	d.Helper()
	if live[of] < 0 {
		return make([]byte, 160)
	}
	return dataAt(d.T, d.chip, live[of])[:160]
}

// wantRest holds what is in memory against what lies on the chip, whichever blocks have failed.
func (d *disk) wantRest() {
	d.Helper()
	v, g := d.view(), seen(d.T, d.chip)
	if v.Live != g.live {
		d.Fatalf("Live is %v, the chip tells %v", v.Live, g.live)
	}
	bad := count(v.States, api.Bad)
	if free := count(v.States, api.Free); free < boundOf(bad) || count(v.States, api.Open) > 1 {
		d.Fatalf("the states are %v", v.States)
	}
	for block, state := range v.States {
		if state == api.Free && !isErased(d.chip, block) {
			d.Fatalf("the block %d is free, and not erased", block)
		}
		if bad <= 2 && (state == api.Bad) != g.point.Bad[block] {
			d.Fatalf("the block %d has the state %d, the checkpoint tells %v", block, state, g.point.Bad)
		}
	}
	d.wantTold()
}

// isWorn tells whether too many blocks are bad, or have failed.
func (d *disk) isWorn() bool {
	many, failed := 0, failedOf(d.chip)
	for block, state := range d.view().States {
		if failed[block] || state == api.Bad {
			many++
		}
	}
	return many > 2
}

// turn is a call of any kind. Whatever fails on the way, it is done, or it answers ErrWornOut and its sector is as it was.
func (d *disk) turn(s *source, turn int) {
	d.Helper()
	of := s.below(24)
	var err error
	retiring := false
	switch kind := s.below(20); {
	case kind < 2:
		if err = d.core.Trim(of); err == nil {
			d.want[of] = nil
		}
	case kind < 3:
		err = d.core.Note()
	case kind < 5:
		retiring = s.below(20) == 0
		if err = d.core.Vacate(s.below(12), retiring); err == api.ErrState {
			err = nil
		}
	case kind < 8:
		d.must(d.core.Tend())
	case kind < 9:
		d.must(d.core.Clean())
	case kind < 11:
		if got, wrong := d.core.Get(of); wrong != nil || !bytes.Equal(got, d.bytesOf(of)) {
			d.Fatalf("Get(%d): %v, %v, want %v", of, got, wrong, d.bytesOf(of))
		}
	default:
		if err = d.core.Put(of, text(of, turn)); err == nil {
			d.want[of] = text(of, turn)
		}
	}
	if err != nil && (err != api.ErrWornOut || !retiring && !d.isWorn()) {
		d.Fatalf("turn %d: %v", turn, err)
	}
}
