package mount_test

import (
	"testing"

	"patina/api"
)

// Grounds are disks on which something may be done, deeds what is done on them: of each pair cuts are tried at every step, and failures.

// ground makes a disk, each time the same.
type ground struct {
	name string
	make func(t *testing.T) *disk
}

// brimming puts sectors until the next one finds no room, and no block is spare.
func (d *disk) brimming() *disk {
	d.Helper()
	d.fill(0)
	for turn := 24; ; turn++ {
		v := d.view()
		if count(v.States, api.Free) == boundOf(count(v.States, api.Bad)) && d.taken(d.open()) == 6 {
			return d
		}
		d.put(turn*7%24, turn)
	}
}

// taken is how many pages of a block are programmed.
func (d *disk) taken(block int) int {
	many := 0
	for place := 8 * block; block >= 0 && place < 8*block+8; place++ {
		if _, is := tagAt(d.chip, place); is {
			many++
		}
	}
	return many
}

// wantBad holds a ground to have so many bad blocks.
func (d *disk) wantBad(many int) *disk {
	d.Helper()
	if v := d.view(); count(v.States, api.Bad) != many {
		d.Fatalf("the states are %v", v.States)
	}
	return d
}

func grounds() []ground {
	return []ground{
		{"young", func(t *testing.T) *disk {
			d := started(t)
			for of := range 9 {
				d.put(of, of)
			}
			return d
		}},
		{"brimming", func(t *testing.T) *disk { return started(t).brimming() }},
		{"one has failed", func(t *testing.T) *disk {
			d := started(t)
			d.chip.FailProgram(1, 10)
			return d.brimming().wantBad(1)
		}},
		{"one has failed, one was retired", func(t *testing.T) *disk {
			d := started(t)
			d.fill(0)
			d.must(d.core.Vacate(2, true))
			d.chip.FailErase(3)
			d.must(d.core.Vacate(3, false))
			return d.brimming().wantBad(2)
		}},
		{"mounted", func(t *testing.T) *disk {
			d := started(t).brimming()
			d.mount()
			return d
		}},
	}
}

// deed is a call; ready is what must be done for it ahead.
type deed struct {
	name   string
	of     int    // the sector that it changes; -1: none
	behind []byte // its bytes then
	ready  func(d *disk)
	do     func(d *disk) error
}

// fullest is the full block with the most that counts, or the frontier's, if there is none.
func fullest(d *disk) int {
	v := d.view()
	live, most := livesOf(v), -1
	for block, state := range v.States {
		if state == api.Full && (most < 0 || live[block] > live[most]) {
			most = block
		}
	}
	if most < 0 {
		return d.open()
	}
	return most
}

// frontier is the frontier's block, or else that of the checkpoint.
func frontier(d *disk) int {
	if block := d.open(); block >= 0 {
		return block
	}
	return d.view().Live[24] / 8
}

// hurtIn damages a sector of a block, and reads it so many times.
func hurtIn(d *disk, block, times int) {
	for _, of := range inBlock(d.view(), block) {
		if of < 24 {
			hurt(d.chip, d.view().Live[of], 1, 2)
			for range times {
				d.core.Get(of)
			}
			return
		}
	}
}

func deeds() []deed {
	nothing := func(*disk) {}
	return []deed{
		{"put over", 3, text(3, 500), nothing, func(d *disk) error { return d.core.Put(3, text(3, 500)) }},
		{"put the last", 23, text(23, 501), nothing, func(d *disk) error { return d.core.Put(23, text(23, 501)) }},
		{"trim", 4, nil, nothing, func(d *disk) error { return d.core.Trim(4) }},
		{"note", -1, nil, nothing, func(d *disk) error { return d.core.Note() }},
		{"vacate the frontier", -1, nil, nothing, func(d *disk) error { return d.core.Vacate(frontier(d), false) }},
		{"vacate a full block", -1, nil, nothing, func(d *disk) error { return d.core.Vacate(fullest(d), false) }},
		{"retire the frontier", -1, nil, nothing, func(d *disk) error { return d.core.Vacate(frontier(d), true) }},
		{"retire a full block", -1, nil, nothing, func(d *disk) error { return d.core.Vacate(fullest(d), true) }},
		{"tend what is damaged", -1, nil, func(d *disk) { hurtIn(d, fullest(d), 1); hurtIn(d, frontier(d), 1) }, func(d *disk) error { return d.core.Tend() }},
		{"tend what is weak", -1, nil, func(d *disk) { hurtIn(d, fullest(d), 3); hurtIn(d, frontier(d), 3) }, func(d *disk) error { return d.core.Tend() }},
		{"tend what is due", -1, nil, func(d *disk) {
			for range 7 {
				d.must(d.core.Tend())
			}
		}, func(d *disk) error { return d.core.Tend() }},
	}
}

// set is a ground on which a deed may be done.
func set(t *testing.T, g ground, e deed) *disk {
	t.Helper()
	d := g.make(t)
	e.ready(d)
	return d
}
