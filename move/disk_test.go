package move_test

import (
	"bytes"
	"slices"
	"testing"

	"patina/api"
	"patina/claim"
	"patina/move"
	"patina/nand"
)

// A disk is a chip, a core over it, and what its sectors are to read as.

type disk struct {
	*testing.T
	chip    *nand.Chip
	core    *move.Core
	want    [24][]byte // nil: noughts
	lost    [24]bool   // such as answer ErrMedia
	counted bool       // the core has seen every read of the chip since its beginning
	knowing bool       // and every failure
}

// newDisk is one over a new chip.
func newDisk(t *testing.T) *disk {
	t.Helper()
	d := &disk{T: t, chip: nand.New(), counted: true, knowing: true}
	d.core = begun(t, d.chip, api.Checkpoint{}, nil)
	if err := d.core.Clean(); err != nil {
		t.Fatalf("Clean(): %v", err)
	}
	d.wantRest()
	return d
}

// begun is a new core.
func begun(t *testing.T, chip *nand.Chip, k api.Checkpoint, l []api.Found) *move.Core {
	t.Helper()
	core, err := move.New(chip, k, l)
	if core == nil || err != nil {
		t.Fatalf("New: %v, %v", core, err)
	}
	return core
}

// again gives the disk another core, which finds what lies on the chip, as a mount does; false: the power went.
func (d *disk) again() bool {
	d.Helper()
	g := seen(d.T, d.chip)
	if !g.pointed {
		g.tags = nil
	}
	d.core, d.counted, d.knowing = begun(d.T, d.chip, g.point, g.tags), false, false
	if err := d.core.Seen([]int{8, 8, 8, 8, 8, 8, 8, 8, 8, 8, 8, 8}); err != nil {
		d.Fatalf("Seen: %v", err)
	}
	err := d.core.Clean()
	if err != nil && err != api.ErrPower {
		d.Fatalf("Clean(): %v", err)
	}
	return err == nil
}

// bytesOf is what a sector is to read as.
func (d *disk) bytesOf(of int) []byte {
	if d.want[of] == nil {
		return make([]byte, 160)
	}
	return d.want[of]
}

// put puts a sector, which must be done.
func (d *disk) put(of, turn int) {
	d.Helper()
	if err := d.core.Put(of, text(of, turn)); err != nil {
		d.Fatalf("Put(%d): %v", of, err)
	}
	d.want[of], d.lost[of] = text(of, turn), false
	d.wantRest()
}

// trim trims a sector, which must be done.
func (d *disk) trim(of int) {
	d.Helper()
	if err := d.core.Trim(of); err != nil {
		d.Fatalf("Trim(%d): %v", of, err)
	}
	d.want[of], d.lost[of] = nil, false
	d.wantRest()
}

// note programs a checkpoint, which must be done.
func (d *disk) note() {
	d.Helper()
	if err := d.core.Note(); err != nil {
		d.Fatalf("Note(): %v", err)
	}
	d.wantRest()
}

// vacate moves a block, which must be done.
func (d *disk) vacate(block int, retire bool) {
	d.Helper()
	if err := d.core.Vacate(block, retire); err != nil {
		d.Fatalf("Vacate(%d, %v): %v", block, retire, err)
	}
	d.wantRest()
}

// tend tends, which must be done.
func (d *disk) tend() {
	d.Helper()
	if err := d.core.Tend(); err != nil {
		d.Fatalf("Tend(): %v", err)
	}
	d.wantRest()
}

// clean cleans, which must be done.
func (d *disk) clean() {
	d.Helper()
	if err := d.core.Clean(); err != nil {
		d.Fatalf("Clean(): %v", err)
	}
	d.wantRest()
}

// fill puts all sectors, from a turn on.
func (d *disk) fill(turn int) {
	d.Helper()
	for of := range 24 {
		d.put(of, turn+of)
	}
}

// view is the core's.
func (d *disk) view() api.View { return d.core.View() }

// open is the frontier's block; -1: there is none.
func (d *disk) open() int { return slices.Index(states(d), api.Open) }

// states are the blocks'.
func states(d *disk) []int {
	v := d.view()
	return v.States[:]
}

// isWorn tells whether too many blocks are bad.
func (d *disk) isWorn() bool { return count(d.view().States, api.Bad) > 2 }

// hurt turns a bit each of so many bytes of a page's chunk.
func (d *disk) hurt(place, chunk, many int) {
	d.Helper()
	for i := range many {
		if err := d.chip.Flip(place, 512*chunk+8*(7*i+3)+i); err != nil {
			d.Fatal(err)
		}
	}
}

// wantGet reads a sector.
func (d *disk) wantGet(of int) {
	d.Helper()
	got, err := d.core.Get(of)
	if d.lost[of] {
		if got != nil || err != api.ErrMedia {
			d.Fatalf("Get(%d): %v, %v, want ErrMedia", of, got, err)
		}
		return
	}
	if err != nil || !bytes.Equal(got, d.bytesOf(of)) {
		d.Fatalf("Get(%d): %v, %v, want %v", of, got, err, d.bytesOf(of))
	}
}

// wantAll reads all sectors.
func (d *disk) wantAll() {
	d.Helper()
	for of := range 24 {
		d.wantGet(of)
	}
}

// wantQuiet does something by which nothing may be programmed, erased, read or changed in what is seen.
func (d *disk) wantQuiet(do func()) {
	d.Helper()
	steps, reads, view := d.chip.Steps(), readsOf(d.chip), d.view()
	do()
	if d.chip.Steps() != steps || readsOf(d.chip) != reads {
		d.Fatalf("there were %d steps, and reads %v, now %d and %v", steps, reads, d.chip.Steps(), readsOf(d.chip))
	}
	if v := d.view(); v != view {
		d.Fatalf("View() was %+v, and is %+v", view, v)
	}
}

// wantRest holds against the chapter all that can be seen of a core between its calls, without a call that changes it.
func (d *disk) wantRest() {
	d.Helper()
	v, g := d.view(), seen(d.T, d.chip)
	if v.Live != g.live {
		d.Fatalf("Live is %v, the chip tells %v", v.Live, g.live)
	}
	d.wantBlocks(v, g)
	d.wantSectors(v)
	d.wantCounts(v, g)
}

// wantBlocks holds the states of the blocks against what lies in them.
func (d *disk) wantBlocks(v api.View, g sight) {
	d.Helper()
	bad := count(v.States, api.Bad)
	worn := bad > 2
	if n := count(v.States, api.Open); n > 1 {
		d.Fatalf("%d blocks are open: %v", n, v.States)
	}
	if free := count(v.States, api.Free); free < boundOf(bad) {
		d.Fatalf("%d blocks are free, %d bad: %v", free, bad, v.States)
	}
	failed, live := failedOf(d.chip), livesOf(v)
	for block, state := range v.States {
		if state == api.Free && !isErased(d.chip, block) {
			d.Fatalf("the block %d is free, and not erased: %v", block, v.States)
		}
		if live[block] > 0 && (state == api.Free || state == api.Bad && !worn) {
			d.Fatalf("in the block %d, whose state is %d, lie %v", block, state, inBlock(v, block))
		}
		if failed[block] && d.knowing && state != api.Bad {
			d.Fatalf("the block %d has failed, its state is %d", block, state)
		}
		if g.pointed && !worn && g.point.Bad[block] != (state == api.Bad) {
			d.Fatalf("the checkpoint tells of the block %d: %v, its state is %d", block, g.point.Bad[block], state)
		}
	}
}

// wantSectors holds what was programmed where a sector counts against its bytes.
func (d *disk) wantSectors(v api.View) {
	d.Helper()
	for of, want := range d.want {
		place := v.Live[of]
		if place < 0 && want == nil {
			continue
		}
		if place < 0 || want == nil {
			d.Fatalf("the sector %d lies at %d, its bytes are %v", of, place, want)
		}
		tag, _ := tagAt(d.chip, place)
		if tag.Of != of || tag.Lost && !d.lost[of] {
			d.Fatalf("the sector %d lies at a page of %+v", of, tag)
		}
		if tag.Lost {
			want = nil
		}
		data := dataAt(d.T, d.chip, place)
		if !bytes.Equal(data[:len(want)], want) || !bytes.Equal(data[len(want):], make([]byte, 174-len(want))) {
			d.Fatalf("the sector %d has %v, want %v", of, data, want)
		}
	}
}

// wantCounts holds the counts against the chip's.
func (d *disk) wantCounts(v api.View, g sight) {
	d.Helper()
	if reads := readsOf(d.chip); d.counted && v.Reads != reads {
		d.Fatalf("Reads are %v, the chip's %v", v.Reads, reads)
	}
	if next := claim.Next(g.tags, g.point); v.Next < next {
		d.Fatalf("Next is %d, the chip tells %d", v.Next, next)
	}
	if v.Moved < v.Reports || v.Moved > 8*v.Reports {
		d.Fatalf("Reports %d, Moved %d", v.Reports, v.Moved)
	}
}
