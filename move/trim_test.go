package move_test

import (
	"testing"

	"patina/api"
	"patina/nand"
)

// P17.4.

func TestTrimOfWhatMayNotBe(t *testing.T) {
	for _, d := range []*disk{newDisk(t), worn(t)} {
		for _, of := range noSectors() {
			d.wantQuiet(func() {
				if err := d.core.Trim(of); err != api.ErrArg {
					t.Fatalf("Trim(%d): %v", of, err)
				}
			})
		}
	}
}

func TestTrimOfWhatDoesntCount(t *testing.T) {
	d := newDisk(t)
	for of := range 24 {
		d.wantQuiet(func() { d.trim(of) })
		d.put(of, 1)
		d.trim(of)
		d.wantQuiet(func() { d.trim(of) })
	}
}

// Each sector: a checkpoint is programmed by which its floor is the seq of its page, and the other floors are as they were.
func TestTrimOfEachSector(t *testing.T) {
	d := newDisk(t)
	d.fill(0)
	var floors [24]int64
	for turn := range 72 {
		of := turn * 7 % 24
		if d.want[of] == nil {
			d.put(of, turn)
		}
		tag, _ := tagAt(d.chip, d.view().Live[of])
		steps, was := d.chip.Steps(), d.view()
		d.trim(of)
		floors[of] = tag.Seq
		g, v := seen(t, d.chip), d.view()
		if g.point.Floors != floors || g.point.Next != g.at.Tag.Seq || g.at.Tag.Seq != was.Next || g.at.Tag.Copy != 0 {
			t.Fatalf("Trim(%d): the checkpoint is %+v at %+v, want the floors %v", of, g.point, g.at, floors)
		}
		if v.Live[of] != -1 || v.Live[24] != g.at.Place || v.Moves == was.Moves && d.chip.Steps() > steps+5 {
			t.Fatalf("Trim(%d): View() was %+v, and is %+v", of, was, v)
		}
		if turn%5 == 0 {
			d.wantAll()
		}
	}
	d.wantAll()
}

// Behind any mount it reads as noughts, whatever is put, moved and noted since.
func TestTrimHolds(t *testing.T) {
	d := newDisk(t)
	d.fill(0)
	for of := range 24 {
		if of%3 == 0 {
			d.trim(of)
		}
	}
	for turn := range 100 {
		of := turn * 5 % 24
		if of%3 > 0 {
			d.put(of, turn)
		}
		if turn%7 == 0 {
			d.vacate(d.view().Live[24]/8, turn == 21 || turn == 70)
		}
		if turn%11 == 0 && !d.again() {
			t.Fatal("the power went")
		}
		d.wantAll()
	}
}

// A sector that was moved has the seq of its page still: that is its floor.
func TestTrimOfWhatWasMoved(t *testing.T) {
	d := newDisk(t)
	d.put(3, 1)
	for range 5 {
		d.vacate(d.open(), false)
	}
	d.trim(3)
	if floor := seen(t, d.chip).point.Floors[3]; floor != 2 {
		t.Errorf("the floor is %d", floor)
	}
	d.wantAll()
}

// A frontier that fails at the checkpoint: the one that tells the block as bad doesn't tell the floor yet, the next one does.
func TestTrimWhereTheFrontierFails(t *testing.T) {
	for chunk := range 4 {
		d := newDisk(t)
		d.put(3, 1)
		d.put(4, 1)
		d.chip.FailProgram(0, chunk)
		d.trim(3)
		v := d.view()
		if v.States != [12]int{api.Bad, api.Open} || v.Live[24] != 11 || v.Live[4] != 9 {
			t.Fatalf("View(): %+v", v)
		}
		first, second := pointAt(t, d.chip, 10), pointAt(t, d.chip, 11)
		if first.Floors[3] != 0 || !first.Bad[0] || second.Floors[3] != 2 || !second.Bad[0] {
			t.Fatalf("the checkpoints are %+v and %+v", first, second)
		}
		d.wantAll()
	}
}

// With too many bad: the sector stays, and what doesn't count is nil.
func TestTrimThatWearsOut(t *testing.T) {
	for chunk := range 4 {
		d := newDisk(t)
		d.fill(0)
		d.trim(5)
		d.vacate(0, true)
		d.vacate(1, true)
		d.chip.FailProgram(d.open(), chunk)
		was := d.view()
		if err := d.core.Trim(3); err != api.ErrWornOut {
			t.Fatalf("Trim(3): %v", err)
		}
		if v := d.view(); v.Live != was.Live || !d.isWorn() {
			t.Fatalf("View() was %+v, and is %+v", was, v)
		}
		d.wantRest()
		d.wantQuiet(func() { d.trim(5) })
		wantDead(t, d.chip, d.core)
		d.wantAll()
		if !d.again() {
			t.Fatal("the power went")
		}
		d.wantAll()
	}
}

func TestTrimWithBadBlocks(t *testing.T) {
	for bad := range 9 {
		k := api.Checkpoint{Next: 9}
		for block := range bad {
			k.Bad[11-block] = true
		}
		chip := nand.New()
		l := []api.Found{found(1, 7, 5, 0)}
		pageAt(t, chip, l[0], text(7, 7))
		steps := chip.Steps()
		core := begun(t, chip, k, l)
		err := core.Trim(7)
		if bad <= 2 && (err != nil || core.View().Live[7] != -1) {
			t.Errorf("%d blocks are bad, Trim(7): %v", bad, err)
		}
		if bad > 2 && (err != api.ErrWornOut || core.View().Live[7] != 1 || chip.Steps() != steps) {
			t.Errorf("%d blocks are bad, Trim(7): %v", bad, err)
		}
	}
}
