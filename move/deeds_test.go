package move_test

import (
	"testing"

	"patina/api"
	"patina/nand"
)

// Grounds are disks on which something may be done, deeds what is done on them: of each pair failures and cuts are tried at every step.

// ground makes a disk, each time the same.
type ground struct {
	name string
	make func(t *testing.T) *disk
}

// quick puts sectors without a look at each.
func (d *disk) quick(of, turn int) {
	d.Helper()
	if err := d.core.Put(of, text(of, turn)); err != nil {
		d.Fatalf("Put(%d): %v", of, err)
	}
	d.want[of] = text(of, turn)
}

// started is a disk over a new chip, of which some blocks are bad.
func started(t *testing.T, bad ...int) *disk {
	t.Helper()
	var k api.Checkpoint
	for _, block := range bad {
		k.Bad[block] = true
	}
	d := &disk{T: t, chip: nand.New(), counted: true, knowing: true}
	d.core = begun(t, d.chip, k, nil)
	if err := d.core.Clean(); err != nil {
		t.Fatalf("Clean(): %v", err)
	}
	return d
}

// brimming puts sectors until the next one finds no room, and no block is spare.
func (d *disk) brimming() *disk {
	d.Helper()
	for of := range 24 {
		d.quick(of, of)
	}
	for turn := 24; ; turn++ {
		v := d.view()
		if count(v.States, api.Free) == boundOf(count(v.States, api.Bad)) && taken(d, d.open()) == 6 {
			d.wantRest()
			return d
		}
		d.quick(turn*7%24, turn)
	}
}

func grounds() []ground {
	return []ground{
		{"young", func(t *testing.T) *disk {
			d := started(t)
			for of := range 9 {
				d.quick(of, of)
			}
			return d
		}},
		{"brimming", func(t *testing.T) *disk { return started(t).brimming() }},
		{"one is bad", func(t *testing.T) *disk { return started(t, 5).brimming() }},
		{"two are bad", func(t *testing.T) *disk { return started(t, 3, 0).brimming() }},
		{"found again", func(t *testing.T) *disk {
			d := started(t).brimming()
			if !d.again() {
				t.Fatal("the power went")
			}
			d.knowing = true
			return d
		}},
	}
}

// deed is a call; ready is what must be done for it ahead, which can't fail. Where it answers nil the sector is what it is to be.
type deed struct {
	name   string
	of     int    // the sector that it changes, if it does
	behind []byte // its bytes then
	ready  func(d *disk)
	do     func(d *disk) error
}

// done does a deed.
func (e deed) done(d *disk) error {
	err := e.do(d)
	if err == nil && e.of >= 0 {
		d.want[e.of] = e.behind
	}
	return err
}

// fullest is the full block with the most that counts, or the frontier's, if there is none.
func fullest(d *disk) int {
	v := d.view()
	live, most := livesOf(v), -1
	for block, state := range v.States {
		if state == api.Full && (most < 0 || live[block] > live[most]) {
			most = block
		}
	}
	if most < 0 {
		return d.open()
	}
	return most
}

// frontier is the frontier's block, or else that of the checkpoint.
func frontier(d *disk) int {
	if block := d.open(); block >= 0 {
		return block
	}
	return d.view().Live[24] / 8
}

// hurtIn damages a sector of a block.
func hurtIn(d *disk, block, times int) {
	for _, of := range inBlock(d.view(), block) {
		if of < 24 {
			d.hurt(d.view().Live[of], 1, 2)
			for range times {
				d.wantGet(of)
			}
			return
		}
	}
}

func deeds() []deed {
	nothing := func(*disk) {}
	return []deed{
		{"put over", 3, text(3, 500), nothing, func(d *disk) error { return d.core.Put(3, text(3, 500)) }},
		{"put the last", 23, text(23, 501), nothing, func(d *disk) error { return d.core.Put(23, text(23, 501)) }},
		{"trim", 4, nil, nothing, func(d *disk) error { return d.core.Trim(4) }},
		{"note", -1, nil, nothing, func(d *disk) error { return d.core.Note() }},
		{"vacate the frontier", -1, nil, nothing, func(d *disk) error { return d.core.Vacate(frontier(d), false) }},
		{"vacate a full block", -1, nil, nothing, func(d *disk) error { return d.core.Vacate(fullest(d), false) }},
		{"retire the frontier", -1, nil, nothing, func(d *disk) error { return d.core.Vacate(frontier(d), true) }},
		{"retire a full block", -1, nil, nothing, func(d *disk) error { return d.core.Vacate(fullest(d), true) }},
		{"tend", -1, nil, func(d *disk) { d.tend(); d.tend() }, func(d *disk) error { return d.core.Tend() }},
		{"tend what is damaged", -1, nil, func(d *disk) { hurtIn(d, fullest(d), 1); hurtIn(d, frontier(d), 1) }, func(d *disk) error { return d.core.Tend() }},
		{"tend what is weak", -1, nil, func(d *disk) { hurtIn(d, fullest(d), 3); hurtIn(d, frontier(d), 3) }, func(d *disk) error { return d.core.Tend() }},
		{"tend what is due", -1, nil, func(d *disk) {
			for range 7 {
				d.tend()
			}
		}, func(d *disk) error { return d.core.Tend() }},
		{"clean", -1, nil, nothing, func(d *disk) error { return d.core.Clean() }},
	}
}

// set is a ground on which a deed may be done.
func set(t *testing.T, g ground, e deed) *disk {
	t.Helper()
	d := g.make(t)
	e.ready(d)
	return d
}

// badOrFailed is how many blocks are bad or have failed.
func (d *disk) badOrFailed() int {
	many, failed := 0, failedOf(d.chip)
	for block, state := range states(d) {
		if failed[block] || state == api.Bad {
			many++
		}
	}
	return many
}
