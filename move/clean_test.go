package move_test

import (
	"testing"

	"patina/api"
	"patina/move"
	"patina/nand"
)

// P17.8.

// A new chip: each block is erased once, and the first checkpoint lies at the first page.
func TestCleanOfANewChip(t *testing.T) {
	chip := nand.New()
	core := begun(t, chip, api.Checkpoint{}, nil)
	if err := core.Clean(); err != nil {
		t.Fatalf("Clean(): %v", err)
	}
	if chip.Steps() != 12+4 {
		t.Errorf("%d steps", chip.Steps())
	}
	g := seen(t, chip)
	if g.at != found(0, 24, 1, 0) || g.point != (api.Checkpoint{Next: 1}) || len(g.tags) != 1 {
		t.Errorf("the checkpoint is %+v at %+v", g.point, g.at)
	}
}

// With a checkpoint that counts, and none that fails, the free blocks are erased, and nothing is programmed.
func TestCleanErasesTheFreeBlocks(t *testing.T) {
	d := newDisk(t)
	d.fill(0)
	d.vacate(1, true)
	for range 3 {
		was, steps := d.view(), d.chip.Steps()
		d.clean()
		for block, state := range was.States {
			if state == api.Free {
				was.Reads[block] = 0
			}
		}
		if v := d.view(); v != was || d.chip.Steps() != steps+count(was.States, api.Free) {
			t.Fatalf("View() is %+v, want %+v, %d steps", v, was, d.chip.Steps()-steps)
		}
		d.tend()
	}
	d.wantAll()
}

// What lies in blocks in which nothing counts is gone behind it, and the reads of these are none; of the others all stays.
func TestCleanOfBlocksThatWereWritten(t *testing.T) {
	d := newDisk(t)
	for turn := range 40 {
		d.put(turn%3, turn)
	}
	g := seen(t, d.chip)
	k := g.point
	for block := range 12 {
		k.Reads[block] = 100 + block
	}
	d.core, d.counted = begun(t, d.chip, k, g.tags), false
	was := d.view()
	free := 0
	for block, state := range was.States {
		if state == api.Free {
			was.Reads[block] = 0
			if !isErased(d.chip, block) {
				free++
			}
		}
	}
	if free == 0 {
		t.Fatal("no free block has anything in it")
	}
	d.clean()
	if v := d.view(); v != was {
		t.Errorf("View() is %+v, want %+v", v, was)
	}
	d.wantAll()
}

// Every set of blocks whose erase fails: just these are bad, and each other free one is erased. Up to two a checkpoint tells them; with more nothing is programmed, and the answer is nil.
func TestCleanOfBlocksThatFail(t *testing.T) {
	t.Parallel()
	for set := range 1 << 12 {
		chip := nand.New()
		core := begun(t, chip, api.Checkpoint{}, nil)
		var bad [12]bool
		many := 0
		for block := range 12 {
			if bad[block] = set>>block&1 == 1; bad[block] {
				chip.FailErase(block)
				many++
			}
		}
		if err := core.Clean(); err != nil {
			t.Fatalf("Clean(): %v", err)
		}
		v := core.View()
		for block := range 12 {
			if bad[block] != (v.States[block] == api.Bad) {
				t.Fatalf("the blocks %v fail, the states are %v", bad, v.States)
			}
		}
		if many > 2 {
			if chip.Steps() != 12 || v.Live[24] != -1 || count(v.States, api.Open) != 0 || v.Next != 1 {
				t.Fatalf("the blocks %v fail, %d steps, View(): %+v", bad, chip.Steps(), v)
			}
			if set%32 == 7 {
				wantNoSteps(t, chip, core)
			}
			continue
		}
		if g := seen(t, chip); chip.Steps() != 16 || g.point != (api.Checkpoint{Next: 1, Bad: bad}) || v.Live[24] != g.at.Place {
			t.Fatalf("the blocks %v fail, the checkpoint is %+v, View(): %+v", bad, g, v)
		}
	}
}

// wantNoSteps asks once for what would program or erase.
func wantNoSteps(t *testing.T, chip *nand.Chip, core *move.Core) {
	t.Helper()
	steps := chip.Steps()
	if core.Note() != api.ErrWornOut || core.Clean() != nil || core.Tend() != nil || chip.Steps() != steps {
		t.Fatalf("worn out, and there were %d steps", chip.Steps()-steps)
	}
}

// A free block that fails on a disk with sectors: a checkpoint tells it, with the frontier where it is.
func TestCleanOfADiskWhoseBlocksFail(t *testing.T) {
	for many := range 4 {
		d := newDisk(t)
		d.fill(0)
		for i := range many {
			d.chip.FailErase(11 - i)
		}
		was := d.view()
		d.clean()
		v := d.view()
		if count(v.States, api.Bad) != many || v.States[4] != api.Open {
			t.Fatalf("%d fail: View() is %+v", many, v)
		}
		if noted := v.Live[24] != was.Live[24]; noted != (many == 1 || many == 2) {
			t.Fatalf("%d fail: a checkpoint is programmed: %v", many, noted)
		}
		if many == 3 {
			wantDead(t, d.chip, d.core)
		}
		d.wantAll()
	}
}

// The checkpoint's own block fails as well.
func TestCleanWhereTheCheckpointFails(t *testing.T) {
	for chunk := range 4 {
		for many := range 4 {
			chip := nand.New()
			d := &disk{T: t, chip: chip, counted: true, knowing: true}
			d.core = begun(t, chip, api.Checkpoint{}, nil)
			for i := range many {
				chip.FailProgram(i, chunk)
			}
			d.clean()
			v := d.view()
			if count(v.States, api.Bad) != many {
				t.Fatalf("%d fail: View() is %+v", many, v)
			}
			if many < 3 && v.Live[24] == -1 || many == 3 && d.core.Note() != api.ErrWornOut {
				t.Fatalf("%d fail: View() is %+v", many, v)
			}
		}
	}
}

// With too many bad told by the checkpoint, the free blocks are erased, and nothing is programmed.
func TestCleanWithBadBlocks(t *testing.T) {
	for bad := range 13 {
		k := api.Checkpoint{Next: 3}
		for block := range bad {
			k.Bad[block] = true
		}
		chip := nand.New()
		stale := found(88, 3, 2, 0)
		pageAt(t, chip, stale, text(3, 3))
		steps := chip.Steps()
		k.Floors[3] = 2
		core := begun(t, chip, k, []api.Found{stale})
		if err := core.Clean(); err != nil {
			t.Fatalf("%d are bad, Clean(): %v", bad, err)
		}
		want := 12 - bad
		if bad <= 2 {
			want += 4
		}
		if chip.Steps() != steps+want || bad < 12 && !isErased(chip, 11) {
			t.Errorf("%d are bad, %d steps, want %d", bad, chip.Steps()-steps, want)
		}
	}
}
