package dev_test

import (
	"slices"
	"testing"

	"patina/api"
	"patina/mount"
	"patina/move"
	"patina/nand"
)

// Grounds are disks on which something may be done, deeds the calls that are done on them: of each pair cuts are tried at each step, and failures.

// ground makes a disk that is mounted, each time the same. It is told of a chip, which is made once.
type ground struct {
	name string
	chip *nand.Chip
	make func(t *testing.T, chip *nand.Chip) *disk
}

// coreOf is a core over a chip: by it a chip is made faster than by a device.
func coreOf(t *testing.T, chip *nand.Chip) *move.Core {
	t.Helper()
	core, err := mount.Mount(chip)
	if err != nil {
		t.Fatal(err)
	}
	return core
}

// brimming is a chip on which something counts in each block that may be used: so the next sector, behind a mount as well, finds no room ahead of a move.
func brimming(t *testing.T, harm func(chip *nand.Chip, core *move.Core)) *nand.Chip {
	t.Helper()
	chip := nand.New()
	core := coreOf(t, chip)
	s := source(7)
	for turn := range 3000 {
		if turn == 60 {
			harm(chip, core)
		}
		v := core.View()
		bad := count(v.States, api.Bad)
		if turn > 100 && slices.Min(v.Live[:]) >= 0 && usedBy(v) == 12-bad-boundOf(bad) {
			return chip
		}
		of := s.below(24)
		if err := core.Put(of, text(of, turn)); err != nil {
			t.Fatal(err)
		}
	}
	t.Fatal("it isn't brimming")
	return nil
}

// usedBy is in how many blocks something counts.
func usedBy(v api.View) int {
	many := 0
	for block := range 12 {
		if len(inBlock(v, block)) > 0 {
			many++
		}
	}
	return many
}

// tiredOf is a chip that tells of each block in which sectors lie that it was read very often.
func tiredOf(t *testing.T, chip *nand.Chip) *nand.Chip {
	t.Helper()
	chip = chip.Clone()
	core := coreOf(t, chip)
	reads := make([]int, 12)
	for of := range 3 {
		reads[core.View().Live[of]/8] = 600
	}
	if core.Seen(reads) != nil || core.Note() != nil {
		t.Fatal("no checkpoint")
	}
	return chip
}

func grounds(t *testing.T) []ground {
	t.Helper()
	none := func(*nand.Chip, *move.Core) {}
	whole := brimming(t, none)
	oneBad := brimming(t, func(chip *nand.Chip, core *move.Core) {
		v := core.View()
		chip.FailProgram(slices.Index(v.States[:], api.Open), 2)
	})
	twoBad := brimming(t, func(chip *nand.Chip, core *move.Core) {
		core.Vacate(core.View().Live[24]/8, true)
		chip.FailErase(core.View().Live[5] / 8)
		core.Vacate(core.View().Live[5]/8, false)
	})
	for i, chip := range []*nand.Chip{whole, oneBad, twoBad} {
		if v := coreOf(t, chip.Clone()).View(); count(v.States, api.Bad) != i || count(v.States, api.Free) != boundOf(i) {
			t.Fatalf("the states are %v", v.States)
		}
	}
	young := func(t *testing.T, chip *nand.Chip) *disk {
		d := mounted(t, chip)
		for of := range 9 {
			d.must(d.write(of, text(of, of)))
		}
		return d
	}
	goingOn := func(t *testing.T, chip *nand.Chip) *disk {
		d := mounted(t, chip)
		d.must(d.write(8, text(8, 300)))
		return d
	}
	return []ground{
		{"young", nand.New(), young},
		{"brimming", whole, mounted},
		{"brimming, with a frontier", whole, goingOn},
		{"one is bad", oneBad, goingOn},
		{"two are bad", twoBad, mounted},
		{"tired", tiredOf(t, whole), mounted},
	}
}

// deed is a call; ready is what is done ahead of it.
type deed struct {
	name  string
	ready func(d *disk)
	do    func(d *disk) error
}

// hurtUnder calls until the patrol comes to a block with so many sectors that no deed changes, and damages them.
func (d *disk) hurtUnder(many int) {
	d.Helper()
	for range 12 {
		var in []int
		for _, of := range inBlock(d.view(), d.view().Cursor/8) {
			if !slices.Contains([]int{2, 3, 4, 23, 24}, of) {
				in = append(in, of)
			}
		}
		if len(in) >= many {
			for i, of := range in[:many] {
				d.hurt(d.sight.live[of], i%4, 2)
			}
			return
		}
		d.must(d.read(20))
	}
	d.Fatalf("no block with %d sectors: %+v", many, d.view())
}

// readies are how a disk may stand ahead of a call: so that nothing is to be tended, a block is to be refreshed, one is to be retired, or a checkpoint is due.
func readies() map[string]func(d *disk) {
	return map[string]func(d *disk){
		"nothing":   func(*disk) {},
		"refresh":   func(d *disk) { d.hurtUnder(1) },
		"retire":    func(d *disk) { d.hurtUnder(3) },
		"two tasks": func(d *disk) { d.hurtUnder(3); d.hurt(d.sight.live[2], 0, 2) },
		"due": func(d *disk) {
			for d.view().Calls != 7 {
				d.must(d.read(20))
			}
		},
	}
}

// deeds are the calls, each of which is done on a disk that stands in each way.
func deeds() []deed {
	calls := []deed{
		{"read", nil, func(d *disk) error { return d.read(2) }},
		{"write", nil, func(d *disk) error { return d.write(3, text(3, 500)) }},
		{"write the last", nil, func(d *disk) error { return d.write(23, text(23, 501)) }},
		{"trim", nil, func(d *disk) error { return d.trim(4) }},
	}
	ways := readies()
	var list []deed
	for _, way := range []string{"nothing", "refresh", "retire", "two tasks", "due"} {
		for _, e := range calls {
			list = append(list, deed{e.name + ": " + way, ways[way], e.do})
		}
	}
	return list
}

// set is a ground on which a deed may be done.
func (g ground) set(t *testing.T, e deed) *disk {
	t.Helper()
	d := g.make(t, g.chip.Clone())
	// The chip tells more reads than there were: what is moved for that isn't for damage.
	d.tired = true
	e.ready(d)
	return d
}
