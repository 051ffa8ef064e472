package move_test

import (
	"testing"

	"patina/api"
	"patina/claim"
	"patina/nand"
	"patina/point"
)

// P17.5.

// pointAt is the checkpoint that a page was programmed with.
func pointAt(t *testing.T, chip *nand.Chip, place int) api.Checkpoint {
	t.Helper()
	tag, is := tagAt(chip, place)
	k, err := point.Read(dataAt(t, chip, place))
	if !is || tag.Of != 24 || err != nil {
		t.Fatalf("at %d lies %+v, %v", place, tag, err)
	}
	return k
}

// told is the checkpoint that a view is told by, as one of that seq.
func told(v api.View, floors [24]int64, seq int64) api.Checkpoint {
	k := api.Checkpoint{Floors: floors, Next: seq, Cursor: v.Cursor, Reads: v.Reads, Scores: v.Scores}
	for block, state := range v.States {
		k.Bad[block] = state == api.Bad
	}
	return k
}

// Each field, whatever was done ahead.
func TestNoteTellsHowAllStands(t *testing.T) {
	d := newDisk(t)
	d.fill(0)
	d.tend()
	d.trim(4)
	d.hurt(d.view().Live[9], 2, 2)
	d.wantGet(9)
	d.vacate(d.view().Live[20]/8, true)
	d.wantGet(20)
	for turn := range 60 {
		if turn == 30 {
			d.vacate(d.view().Live[6]/8, true)
		}
		was, floors := d.view(), seen(t, d.chip).point.Floors
		room := d.open() >= 0 && taken(d, d.open()) < 8
		steps := d.chip.Steps()
		d.note()
		g, v := seen(t, d.chip), d.view()
		if g.at.Place != v.Live[24] || g.at.Tag != (api.Tag{Place: v.Live[24], Of: 24, Seq: was.Next}) || v.Next != was.Next+1 {
			t.Fatalf("Note(): the checkpoint has %+v, View() was %+v, and is %+v", g.at, was, v)
		}
		if room && d.chip.Steps() != steps+4 {
			t.Fatalf("Note(): %d steps", d.chip.Steps()-steps)
		}
		if room && g.point != told(was, floors, was.Next) {
			t.Fatalf("Note(): %+v, want %+v", g.point, told(was, floors, was.Next))
		}
		if v.Calls != 0 {
			t.Fatalf("Note(): %d calls", v.Calls)
		}
		if turn%3 == 0 {
			d.put(turn%24, turn)
			d.tend()
			d.wantGet(20)
		}
	}
	d.wantAll()
}

// The checkpoint takes the pages behind the sectors' too: eight of a block.
func TestNotesLieInAllPages(t *testing.T) {
	d := newDisk(t)
	for turn := 1; turn < 40; turn++ {
		d.note()
		if v := d.view(); v.Live[24] != turn {
			t.Fatalf("the checkpoint lies at %d, want %d", v.Live[24], turn)
		}
	}
}

func TestNotesWithoutEnd(t *testing.T) {
	d := newDisk(t)
	d.fill(0)
	for range 1000 {
		d.note()
	}
	d.wantAll()
	if n := count(d.view().States, api.Bad); n > 0 {
		t.Errorf("%d blocks are bad", n)
	}
}

// reason is a call that programs a checkpoint anew, or none.
type reason struct {
	noted bool
	do    func(d *disk)
}

// reasons are all of them, of a disk on which the sectors 0 to 12 were put.
func reasons() map[string]reason {
	return map[string]reason{
		"Note":                  {true, func(d *disk) { d.note() }},
		"Trim":                  {true, func(d *disk) { d.trim(3) }},
		"Trim of nothing":       {false, func(d *disk) { d.trim(23) }},
		"Put":                   {false, func(d *disk) { d.put(3, 9) }},
		"Get":                   {false, func(d *disk) { d.wantGet(3) }},
		"Vacate":                {false, func(d *disk) { d.vacate(d.view().Live[24]/8, false) }},
		"Vacate, retired":       {true, func(d *disk) { d.vacate(d.view().Live[24]/8, true) }},
		"Vacate, other retired": {true, func(d *disk) { d.vacate(d.view().Live[0]/8, true) }},
		"the erase fails":       {true, func(d *disk) { d.chip.FailErase(0); d.vacate(0, false) }},
		"the copy fails":        {true, func(d *disk) { d.chip.FailProgram(d.open()+1, 3); d.vacate(0, false) }},
		"the frontier fails":    {true, func(d *disk) { d.chip.FailProgram(d.open(), 3); d.put(3, 9) }},
		"Clean":                 {false, func(d *disk) { d.clean() }},
		"Clean, one fails":      {true, func(d *disk) { d.chip.FailErase(11); d.clean() }},
	}
}

// thirteen is a disk on which the sectors 0 to 12 were put.
func thirteen(t *testing.T) *disk {
	t.Helper()
	d := newDisk(t)
	for of := range 13 {
		d.put(of, 1)
	}
	return d
}

// Behind each checkpoint that was programmed anew, whatever for, the calls are none: the cursor is written down; a copy of the checkpoint writes nothing down.
func TestCursorIsWrittenDownBehindEachCheckpoint(t *testing.T) {
	for name, c := range reasons() {
		d := thirteen(t)
		for range 5 {
			d.tend()
		}
		if v := d.view(); v.Calls != 5 || v.Cursor != 40 {
			t.Fatalf("%s: %+v", name, v)
		}
		c.do(d)
		v, g := d.view(), seen(t, d.chip)
		if c.noted && (v.Calls != 0 || g.point.Cursor != 40) || !c.noted && (v.Calls != 5 || g.point.Cursor != 0) {
			t.Errorf("%s: %d calls, the checkpoint tells the cursor %d", name, v.Calls, g.point.Cursor)
		}
	}
}

// So are the reads: those that were due are it no more, and else they are at the next Tend.
func TestReadsAreWrittenDownWhateverFor(t *testing.T) {
	for name, c := range reasons() {
		d := thirteen(t)
		for of := range 13 {
			for range 64 {
				d.wantGet(of)
			}
		}
		c.do(d)
		was := d.view()
		d.tend()
		if noted := d.view().Live[24] != was.Live[24]; noted == c.noted {
			t.Errorf("%s: the next Tend programs a checkpoint: %v", name, noted)
		}
	}
}

// The reads that are written down: behind a checkpoint it is due 64 reads later, not sooner.
func TestReadsAreDueAfter64More(t *testing.T) {
	for more := 50; more < 62; more++ {
		d := newDisk(t)
		d.put(3, 1)
		for range 300 {
			d.wantGet(3)
		}
		d.note()
		for range more {
			d.wantGet(3)
		}
		was := d.view()
		d.tend() // the patrol reads the block 0 eight times
		noted := d.view().Live[24] != was.Live[24]
		if noted != (more+8 >= 64) {
			t.Errorf("%d reads behind the checkpoint: the next one is programmed: %v", more+8, noted)
		}
	}
}

// ErrWornOut, where too many are bad.
func TestNoteWithBadBlocks(t *testing.T) {
	for bad := range 13 {
		k := api.Checkpoint{Next: 7}
		for block := range bad {
			k.Bad[block] = true
		}
		chip := nand.New()
		core := begun(t, chip, k, nil)
		err := core.Note()
		if bad > 2 {
			if err != api.ErrWornOut || chip.Steps() != 0 {
				t.Errorf("%d blocks are bad, Note(): %v", bad, err)
			}
			continue
		}
		want := k
		want.Next = claim.Next(nil, k)
		if g := seen(t, chip); err != nil || g.point != want || g.at.Place != 8*bad {
			t.Errorf("%d blocks are bad, Note(): %v, %+v", bad, err, g)
		}
	}
}
