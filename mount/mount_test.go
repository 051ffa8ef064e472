package mount_test

import (
	"maps"
	"slices"
	"testing"

	"patina/api"
	"patina/mount"
	"patina/nand"
)

// P18.2: no chip, no power, a power that goes; each page is read once, the reads are Seen, Clean is done.

func TestMountOfNoChip(t *testing.T) {
	if core, err := mount.Mount(nil); core != nil || err != api.ErrArg {
		t.Errorf("Mount(nil): %v, %v", core, err)
	}
}

func TestMountWithoutPower(t *testing.T) {
	full := started(t)
	full.fill(0)
	for _, chip := range []*nand.Chip{nand.New(), full.chip} {
		off(t, chip)
		was, reads := chip.Clone(), readsOf(chip)
		if core, err := mount.Mount(chip); core != nil || err != api.ErrPower {
			t.Errorf("Mount: %v, %v", core, err)
		}
		wantSameChip(t, chip, was)
		if readsOf(chip) != reads {
			t.Error("it was read without power")
		}
	}
	full.chip.Power()
	full.mount()
	full.wantAll()
}

func TestMountOfANewChip(t *testing.T) {
	d := newDisk(t)
	if d.view() != newView() {
		t.Errorf("View(): %+v", d.view())
	}
	d.wantAll()
	d.wantRest()
	if d.chip.Steps() != 12+4 {
		t.Errorf("%d steps: there are twelve erases, and a page", d.chip.Steps())
	}
	d.put(3, 1)
	d.mount()
	d.wantAll()
	if d.chip.Steps() != 12+4+4+11 {
		t.Errorf("%d steps: there are eleven erases more, and a page", d.chip.Steps())
	}
}

// mountable are chips on which a mount has something of every kind to do.
func mountable(t *testing.T) map[string]*disk {
	t.Helper()
	out := map[string]*disk{"new": {T: t, chip: nand.New()}, "young": started(t), "full": started(t), "moving": started(t), "retiring": started(t), "bad": started(t), "failing": started(t)}
	out["young"].put(5, 5)
	for _, name := range []string{"full", "moving", "retiring", "bad", "failing"} {
		out[name].fill(0)
	}
	cut := func(d *disk, retire bool) {
		d.chip.Cut(14)
		if err := d.core.Vacate(1, retire); err != api.ErrPower {
			t.Fatalf("Vacate: %v", err)
		}
		d.chip.Power()
	}
	cut(out["moving"], false)
	cut(out["retiring"], true)
	bad := out["bad"]
	bad.chip.FailErase(2)
	bad.must(bad.core.Vacate(2, false))
	bad.must(bad.core.Vacate(0, true))
	bad.trim(3)
	failing := out["failing"]
	failing.chip.FailErase(9)
	failing.chip.FailProgram(5, 2)
	return out
}

// The power goes behind each number of steps of a mount: ErrPower, and no core; the next mount finds all there is.
func TestPowerGoesAtEachStepOfAMount(t *testing.T) {
	disks := mountable(t)
	for _, name := range slices.Sorted(maps.Keys(disks)) {
		d := disks[name]
		chip := d.chip
		budget := 0
		for {
			d.chip = chip.Clone()
			reads := readsOf(d.chip)
			if !d.cutMount(budget) {
				break
			}
			if d.chip.Steps() != chip.Steps()+budget {
				t.Fatalf("%s: %d steps of %d", name, d.chip.Steps()-chip.Steps(), budget)
			}
			if now := readsOf(d.chip); budget == 0 {
				for block := range now {
					if now[block] != reads[block]+8 {
						t.Fatalf("%s: the block %d was read %d times", name, block, now[block]-reads[block])
					}
				}
			}
			d.wantTold()
			if core, err := mount.Mount(d.chip); core != nil || err != api.ErrPower {
				t.Fatalf("%s: Mount of a chip whose power went: %v, %v", name, core, err)
			}
			d.chip.Power()
			d.mountAnyhow()
			d.wantAll()
			d.wantRest()
			budget++
		}
		if budget < 5 {
			t.Errorf("%s: the mount has %d steps alone", name, budget)
		}
		// With as many steps as it takes it is the same as with a power that stays.
		other := &disk{T: t, chip: chip.Clone(), want: d.want}
		other.mountAnyhow()
		wantSameChip(t, d.chip, other.chip)
		if d.view() != other.view() {
			t.Errorf("%s: View() is %+v with a budget, %+v without", name, d.view(), other.view())
		}
		d.wantAll()
		d.wantRest()
	}
}

// The power goes with the mount's own steps alone: a budget that is left stays.
func TestMountLeavesTheBudget(t *testing.T) {
	d := started(t)
	d.fill(0)
	free := count(d.view().States, api.Free)
	d.chip.Cut(free + 4)
	d.mount()
	d.put(3, 77)
	if err := d.core.Put(3, text(3, 78)); err != api.ErrPower {
		t.Errorf("Put(3): %v", err)
	}
	d.chip.Power()
	d.mount()
	d.wantAll()
}

// Each page is read once, also where a mount follows another one.
func TestMountReadsEachPageOnce(t *testing.T) {
	d := started(t)
	d.fill(0)
	for range 5 {
		d.mount() // which holds the reads of each block
	}
	v := d.view()
	for block, state := range v.States {
		if state == api.Full && v.Reads[block] != 8 {
			t.Errorf("the block %d has %d reads: of those that no checkpoint tells eight are known", block, v.Reads[block])
		}
	}
}

// The reads of a mount are Seen: eight more than the checkpoint tells, of each block that isn't erased then.
func TestMountCountsItsReads(t *testing.T) {
	chip := nand.New()
	k := api.Checkpoint{Next: 30, Reads: [12]int{100, 200, 300, 400, 65527, 65528, 65535, 700, 800, 900, 1000, 1100}}
	k.Bad[7], k.Bad[11] = true, true
	layPoint(t, chip, 6, 30, 0, k)
	for block := range 8 {
		laySector(t, chip, 8*block, block, int64(block+1))
	}
	d := over(t, chip)
	if want := [12]int{108, 208, 308, 408, 65535, 65535, 65535, 708, 0, 0, 0, 1108}; d.view().Reads != want {
		t.Errorf("Reads are %v, want %v", d.view().Reads, want)
	}
	// Then the checkpoint tells them.
	d.must(d.core.Note())
	d.mount()
	if v := d.view(); v.Reads[0] != 116 || v.Reads[7] != 716 || v.Reads[11] != 1116 {
		t.Errorf("Reads are %v", v.Reads)
	}
}

// The reads that a mount makes let a block be tired, and a checkpoint due, as all others do.
func TestReadsOfAMountTire(t *testing.T) {
	for reads, tired := range map[int]bool{503: false, 504: true} {
		chip := nand.New()
		k := api.Checkpoint{Next: 30, Cursor: 88}
		k.Reads[1] = reads
		layPoint(t, chip, 6, 30, 0, k)
		laySector(t, chip, 8, 4, 3)
		d := over(t, chip)
		d.want[4] = text(4, 3)
		d.must(d.core.Tend())
		if moved := d.view().Reports == 1 && d.view().Live[4] != 8; moved != tired {
			t.Errorf("with %d reads, and those of the mount: %+v", reads, d.view())
		}
		d.wantAll()
		d.wantRest()
	}
}

// What no checkpoint and no tag tells isn't counted on: reports and moves begin anew, the calls of the patrol, too.
func TestMountBeginsItsCounts(t *testing.T) {
	d := newDisk(t)
	d.fill(0)
	hurt(d.chip, 9, 1, 2)
	for range 5 {
		d.must(d.core.Tend())
	}
	if v := d.view(); v.Reports == 0 || v.Moved == 0 || v.Moves == 0 || v.Calls == 0 {
		t.Fatalf("View(): %+v", v)
	}
	d.mount()
	if v := d.view(); v.Reports != 0 || v.Moved != 0 || v.Moves != 0 || v.Calls != 0 {
		t.Errorf("View(): %+v", v)
	}
	d.wantAll()
}

// Clean: what lies in blocks in which nothing counts is erased, whatever it is.
func TestMountErasesFreeBlocks(t *testing.T) {
	chip := nand.New()
	k := api.Checkpoint{Next: 30}
	k.Floors[9] = 12
	k.Bad[3] = true
	layPoint(t, chip, 6, 30, 0, k)
	laySector(t, chip, 0, 1, 5)
	laySector(t, chip, 8, 1, 4)   // an elder page
	laySector(t, chip, 16, 9, 12) // one at its floor
	laySector(t, chip, 24, 2, 31) // one in a bad block
	lay(t, chip, api.Tag{Place: 32, Of: 1, Seq: 5, Copy: 1}, text(1, 5))
	layPoint(t, chip, 47, 29, 0, api.Checkpoint{})
	layChunks(t, chip, 48, chunksOf(t, api.Tag{Place: 48, Of: 7, Seq: 40}, nil), 0, 1, 2)
	laySector(t, chip, 56, 6, 50)
	hurt(chip, 56, 3, 3)
	hurt(chip, 64, 0, 4)
	was := chip.Clone()
	d := &disk{T: t, chip: chip}
	d.mountAnyhow()
	want := api.View{Next: 32, Live: nowhere()}
	want.States[0], want.States[3] = api.Full, api.Bad
	want.Live[1], want.Live[24] = 0, 6
	want.Reads[0], want.Reads[3] = 8, 8
	if v := d.view(); v != want {
		t.Errorf("View() is %+v, want %+v", v, want)
	}
	d.wantOnlyErased(was, want)
	if _, is := tagAt(chip, 24); !is {
		t.Error("a bad block was erased")
	}
}

// Clean: a free block whose erase fails is bad, and a checkpoint tells so.
func TestMountOfAChipWhoseErasesFail(t *testing.T) {
	for many := range 5 {
		d := started(t)
		d.fill(0)
		for block := 11; block > 11-many; block-- {
			d.chip.FailErase(block)
		}
		g := seen(t, d.chip)
		d.mountAnyhow()
		v := d.view()
		if count(v.States, api.Bad) != many || count(v.States, api.Free)+count(v.States, api.Open) != 12-many-5 {
			t.Fatalf("%d fail: the states are %v", many, v.States)
		}
		told := seen(t, d.chip)
		for block := range 12 {
			if bad := block > 11-many; many <= 2 && told.point.Bad[block] != bad || many > 2 && told.point != g.point {
				t.Errorf("%d fail: the checkpoint tells %v", many, told.point.Bad)
			}
		}
		if anew := told.live[24] != g.live[24]; anew != (many == 1 || many == 2) {
			t.Errorf("%d fail: the checkpoint lies at %d", many, told.live[24])
		}
		if err := d.core.Put(3, text(3, 99)); (err == nil) != (many <= 2) || err != nil && err != api.ErrWornOut {
			t.Errorf("%d fail: Put(3): %v", many, err)
		} else if err == nil {
			d.want[3] = text(3, 99)
		}
		d.wantAll()
		d.mountAnyhow()
		d.wantAll()
	}
}

// A chip on which three blocks are bad is mounted, and read.
func TestMountOfAChipThatIsWornOut(t *testing.T) {
	chip := nand.New()
	k := api.Checkpoint{Next: 30}
	k.Bad[1], k.Bad[2], k.Bad[3] = true, true, true
	layPoint(t, chip, 6, 30, 0, k)
	laySector(t, chip, 0, 1, 5)
	d := over(t, chip)
	d.want[1] = text(1, 5)
	d.wantAll()
	if err := d.core.Put(1, text(1, 6)); err != api.ErrWornOut {
		t.Errorf("Put(1): %v", err)
	}
	d.wantAll()
}
