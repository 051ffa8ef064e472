package move_test

import (
	"slices"
	"testing"

	"patina/api"
	"patina/nand"
)

// P17.7.

// stepOf are the eight places from a cursor on.
func stepOf(cursor int) []int {
	var places []int
	for i := range 8 {
		places = append(places, (cursor+i)%96)
	}
	return places
}

// Each Tend reads the eight pages from the cursor on, each once, and goes on behind them, round and round, from any cursor.
func TestTendReadsTheNextEightPages(t *testing.T) {
	for _, cursor := range []int{0, 1, 5, 8, 43, 90, 95} {
		chip := nand.New()
		core := begun(t, chip, api.Checkpoint{Cursor: cursor}, nil)
		for call := 1; call < 8; call++ {
			was := readsOf(chip)
			for _, place := range stepOf(cursor) {
				was[place/8]++
			}
			if err := core.Tend(); err != nil {
				t.Fatalf("Tend(): %v", err)
			}
			cursor = (cursor + 8) % 96
			v := core.View()
			if readsOf(chip) != was || v.Reads != was || v.Cursor != cursor || v.Calls != call || chip.Steps() != 0 {
				t.Fatalf("the chip was read %v, View() is %+v, want %v and the cursor %d", readsOf(chip), v, was, cursor)
			}
		}
	}
}

// The pages that are read are those: damage is seen there, and nowhere else.
func TestTendSeesWhatItReads(t *testing.T) {
	t.Parallel()
	for of := range 24 {
		for cursor := range 12 {
			d := newDisk(t)
			d.fill(0)
			for range cursor {
				d.tend()
			}
			was := d.view()
			at := was.Live[of]
			d.hurt(at, of%4, 2)
			d.tend()
			v := d.view()
			if read := slices.Contains(stepOf(was.Cursor), at); read != (v.Reports == 1) || read != (v.Live[of] != at) || read != (v.Scores[at/8] == 1) {
				t.Fatalf("the cursor was %d, the page is %d: View() was %+v, and is %+v", was.Cursor, at, was, v)
			}
			if v.Reports == 1 && v.Moved != len(inBlock(was, at/8)) {
				t.Fatalf("View() was %+v, and is %+v", was, v)
			}
			d.wantAll()
		}
	}
}

// The damage of each chunk, from none to four bytes, of sectors and of the checkpoint.
func TestTendOfDamagedPages(t *testing.T) {
	for _, of := range []int{2, 24} {
		for chunk := range 4 {
			for many := range 5 {
				d := newDisk(t)
				d.put(1, 1)
				d.put(2, 2)
				d.put(3, 3)
				was := d.view()
				d.hurt(was.Live[of], chunk, many)
				if of == 2 {
					d.lost[2] = many > 2
				}
				d.tend()
				v := d.view()
				if many < 2 {
					was.Reads[0], was.Cursor, was.Calls = was.Reads[0]+8, 8, 1
					if v != was {
						t.Fatalf("%d bytes of the chunk %d: View() is %+v, want %+v", many, chunk, v, was)
					}
					continue
				}
				if v.States != [12]int{api.Free, api.Open} || v.Scores != [12]int{1} || v.Reports != 1 || v.Moved != 4 || v.Moves != 4 {
					t.Fatalf("%d bytes of the chunk %d: View() is %+v", many, chunk, v)
				}
				d.wantAll()
			}
		}
	}
}

// Damage of pages that don't count is nothing, however great: erased ones, elder ones, such as were trimmed.
func TestTendOfWhatDoesntCount(t *testing.T) {
	d := newDisk(t)
	d.put(1, 1)
	d.put(2, 2)
	d.put(1, 3)
	d.trim(2)
	was := d.view()
	for _, place := range []int{0, 1, 2, 5, 6, 7} {
		for chunk := range 4 {
			d.hurt(place, chunk, 4)
		}
	}
	d.tend()
	if v := d.view(); v.Reports != 0 || v.Scores != [12]int{} || v.Live != was.Live {
		t.Errorf("View() was %+v, and is %+v", was, v)
	}
	d.wantAll()
}

// Each page that was read damaged is a report of its block; the block is moved once.
func TestTendReportsEachPage(t *testing.T) {
	for many := range 5 {
		d := newDisk(t)
		for of := range 5 {
			d.put(of, of)
		}
		for of := range many {
			d.hurt(d.view().Live[of], of%4, 2)
		}
		d.tend()
		v := d.view()
		want := [12]int{api.Open}
		if many > 0 {
			want = [12]int{api.Free, api.Open}
		}
		if many > 2 {
			want = [12]int{api.Bad, api.Open}
		}
		if v.Scores != [12]int{many} || v.States != want || v.Reports != min(many, 1) || v.Moved != 6*min(many, 1) {
			t.Errorf("%d pages: View() is %+v", many, v)
		}
		d.wantAll()
	}
}

// The scores stay, whatever is erased: a block that is reported a third time is retired, if fewer than two are bad; else it is moved as any other.
func TestTendRetiresWeakBlocks(t *testing.T) {
	for bad := range 3 {
		k := api.Checkpoint{}
		for block := range bad {
			k.Bad[11-block] = true
		}
		d := &disk{T: t, chip: nand.New(), counted: true, knowing: true}
		d.core = begun(t, d.chip, k, nil)
		d.clean()
		d.put(3, 3)
		d.tend() // the patrol goes on to blocks that the sector isn't in
		for turn := 1; turn <= 5; turn++ {
			// Back to the block 0, by moves of those that the sector lies in.
			for d.view().Live[3]/8 != 0 && d.view().States[0] != api.Bad {
				d.vacate(d.view().Live[3]/8, false)
			}
			was := d.view()
			block := was.Live[3] / 8
			d.hurt(was.Live[3], 0, 2)
			d.wantGet(3)
			d.tend()
			v := d.view()
			retired := block == 0 && turn == 3 && bad < 2
			want := api.Free
			if retired {
				want = api.Bad
			}
			if v.States[block] != want || v.Scores[block] != was.Scores[block]+1 || v.Reports != was.Reports+1 {
				t.Fatalf("%d are bad, turn %d: View() was %+v, and is %+v", bad, turn, was, v)
			}
			if retired && (v.Calls != 0 || !seen(t, d.chip).point.Bad[0]) {
				t.Fatalf("%d are bad, turn %d: %+v", bad, turn, v)
			}
			d.wantGet(3)
		}
	}
}

// A block is tired behind 512 reads, not behind 511, if something counts in it.
func TestTendMovesTiredBlocks(t *testing.T) {
	for _, gets := range []int{500, 501, 502, 503, 504} {
		d := newDisk(t)
		d.put(3, 3) // two reads back
		for range gets {
			d.wantGet(3)
		}
		d.tend() // and eight of the patrol
		v := d.view()
		tired := gets+10 >= 512
		if tired != (v.Reports == 1) || tired != (v.States[0] == api.Free) || tired != (v.Moved == 2) || v.Scores != [12]int{} {
			t.Errorf("%d reads: %+v", gets+10, v)
		}
		d.wantAll()
	}
	k := api.Checkpoint{}
	for block := range 12 {
		k.Reads[block] = 600
	}
	chip := nand.New()
	core := begun(t, chip, k, nil)
	if err := core.Tend(); err != nil || core.View().Reports != 0 || chip.Steps() != 0 {
		t.Errorf("Tend() of tired blocks in which nothing counts: %v, %+v", err, core.View())
	}
}

// A tired block that is weak is retired.
func TestTendRetiresTiredWeakBlocks(t *testing.T) {
	for score := range 6 {
		k := api.Checkpoint{}
		k.Scores[0] = score
		d := &disk{T: t, chip: nand.New(), counted: true, knowing: true}
		d.core = begun(t, d.chip, k, nil)
		d.clean()
		d.put(3, 3)
		for range 502 {
			d.wantGet(3)
		}
		d.tend()
		want := api.Free
		if score > 2 {
			want = api.Bad
		}
		if v := d.view(); v.States[0] != want || v.Reports != 1 || v.Scores != k.Scores {
			t.Errorf("score %d: %+v", score, v)
		}
		d.wantAll()
	}
}

// The order of the moves: those that Get reported, then those that the patrol did, then the tired ones by rising number; each once. The free blocks are taken in turn, so the first that is moved lies in the first of them.
func TestTendMovesInOrder(t *testing.T) {
	d := newDisk(t)
	d.fill(0)
	d.counted = false
	was := d.view()
	if was.States != [12]int{api.Full, api.Full, api.Full, api.Full, api.Open} {
		t.Fatalf("View(): %+v", was)
	}
	// The block 3 is reported first, then 1 and 3 again; the patrol reads the block 0; 2 and 4 are tired, and 1 as well.
	for _, place := range []int{was.Live[20], was.Live[7], was.Live[2]} {
		d.hurt(place, 1, 2)
	}
	d.wantGet(20)
	d.wantGet(7)
	d.wantGet(20)
	reads := make([]int, 12)
	reads[1], reads[2], reads[4] = 600, 600, 600
	if err := d.core.Seen(reads); err != nil {
		t.Fatal(err)
	}
	d.tend()
	v := d.view()
	for i, block := range []int{3, 1, 0, 2, 4} {
		// Blocks are free behind a move, and taken again only once the round comes to them.
		for _, of := range inBlock(was, block) {
			if v.Live[of]/8 != 5+i {
				t.Errorf("the number %d of the block %d lies at %d, want it in the block %d", of, block, v.Live[of], 5+i)
			}
		}
	}
	if v.Reports != 5 || v.Moved != 25 || v.Moves != 25 || v.Scores != [12]int{1, 1, 0, 2} {
		t.Errorf("View(): %+v", v)
	}
	d.wantAll()
}

// A block that waits, and in which nothing counts any more, isn't moved.
func TestTendOfBlocksThatWereCleared(t *testing.T) {
	for kind := range 3 {
		d := newDisk(t)
		d.put(3, 1)
		d.hurt(1, 0, 2)
		d.wantGet(3)
		switch kind {
		case 0: // moved
			d.vacate(0, false)
		case 1: // retired
			d.vacate(0, true)
		case 2: // put over and noted elsewhere
			d.put(0, 0)
			d.put(1, 1)
			d.put(2, 2)
			d.put(3, 2)
			d.put(0, 0)
			d.put(1, 1)
			d.put(2, 2)
			d.put(3, 2)
			d.note()
			if len(inBlock(d.view(), 0)) != 0 {
				t.Fatalf("View(): %+v", d.view())
			}
		}
		was := d.view()
		d.tend()
		if v := d.view(); v.Reports != 0 || v.Live != was.Live || v.States != was.States {
			t.Errorf("kind %d: View() was %+v, and is %+v", kind, was, v)
		}
		d.wantAll()
	}
}

// A checkpoint behind eight calls, not behind seven; and the next one behind eight more.
func TestTendNotesTheCursor(t *testing.T) {
	d := newDisk(t)
	d.fill(0)
	for call := 1; call < 60; call++ {
		was := d.view()
		d.tend()
		v := d.view()
		due := call%8 == 0
		if due != (v.Live[24] != was.Live[24]) || v.Calls != call%8 || v.Cursor != call*8%96 {
			t.Fatalf("call %d: View() was %+v, and is %+v", call, was, v)
		}
		if k := seen(t, d.chip).point; due && (k.Cursor != v.Cursor || k.Next != was.Next) {
			t.Fatalf("call %d: the checkpoint is %+v", call, k)
		}
	}
	d.wantAll()
}

// A checkpoint that was programmed otherwise puts it off.
func TestTendNotesBehindTheLastCheckpoint(t *testing.T) {
	d := newDisk(t)
	d.put(3, 1)
	for range 7 {
		d.tend()
	}
	d.trim(3)
	for call := 1; call < 9; call++ {
		was := d.view()
		d.tend()
		if v := d.view(); (call == 8) != (v.Live[24] != was.Live[24]) {
			t.Fatalf("call %d: View() was %+v, and is %+v", call, was, v)
		}
	}
}

// A retired block's commit is a checkpoint: no other one is programmed behind it.
func TestTendNotesOnce(t *testing.T) {
	d := newDisk(t)
	d.put(3, 1)
	for range 7 {
		d.tend()
	}
	d.hurt(d.view().Live[3], 0, 2)
	for range 3 {
		d.wantGet(3)
	}
	was, steps := d.view(), d.chip.Steps()
	d.tend()
	if v := d.view(); v.Next != was.Next+1 || v.Calls != 0 || d.chip.Steps() != steps+8 || v.States[0] != api.Bad {
		t.Errorf("View() was %+v, and is %+v, %d steps", was, v, d.chip.Steps()-steps)
	}
	// A plain move writes nothing down.
	d = newDisk(t)
	d.put(3, 1)
	for range 7 {
		d.tend()
	}
	d.hurt(d.view().Live[3], 0, 2)
	d.wantGet(3)
	was, steps = d.view(), d.chip.Steps()
	d.tend()
	if v := d.view(); v.Next != was.Next+1 || v.Calls != 0 || d.chip.Steps() != steps+13 {
		t.Errorf("View() was %+v, and is %+v, %d steps", was, v, d.chip.Steps()-steps)
	}
}

// Every page that counts is read within twelve calls, whatever is put and moved between.
func TestTendReadsAllPages(t *testing.T) {
	t.Parallel()
	d := newDisk(t)
	d.fill(0)
	for turn := range 60 {
		of := turn * 7 % 24
		d.put(of, turn)
		at := d.view().Live[of]
		d.hurt(at, turn%4, 2)
		for range 12 {
			d.tend()
		}
		if v := d.view(); v.Live[of] == at {
			t.Fatalf("turn %d: the sector %d lies at %d still", turn, of, at)
		}
		d.wantAll()
		if d.view().Scores[at/8] == 2 {
			d = newDisk(t)
			d.fill(turn)
		}
	}
}

// Without damage, ahead of 512 reads, nothing is moved by Tend, however often.
func TestTendWithoutDamage(t *testing.T) {
	d := newDisk(t)
	d.fill(0)
	for range 240 {
		was := d.view()
		d.tend()
		for block, reads := range was.Reads {
			if v := d.view(); reads > 500 && v.Reports == 0 && v.Reads[block] > 520 && len(inBlock(v, block)) > 0 {
				t.Fatalf("the block %d was read %d times", block, v.Reads[block])
			}
		}
	}
	if v := d.view(); v.Reports != 0 || v.Moved != 0 {
		t.Errorf("View(): %+v", v)
	}
}

// With too many bad blocks it reads and reports, and answers nil; nothing is moved or noted.
func TestTendWhenWornOut(t *testing.T) {
	d := worn(t)
	for of := range 24 {
		d.hurt(d.view().Live[of], of%4, 2)
	}
	was, steps := d.view(), d.chip.Steps()
	for call := range 24 {
		reads := readsOf(d.chip)
		for _, place := range stepOf(d.view().Cursor) {
			reads[place/8]++
		}
		d.tend()
		if v := d.view(); v.Reads != reads || v.Calls != was.Calls+call+1 {
			t.Fatalf("the reads are %v, want %v", v.Reads, reads)
		}
	}
	v := d.view()
	if v.Live != was.Live || v.States != was.States || v.Reports != 0 || v.Moves != was.Moves || v.Next != was.Next || d.chip.Steps() != steps {
		t.Errorf("View() was %+v, and is %+v", was, v)
	}
	scored := 0
	for block := range 12 {
		scored += v.Scores[block] - was.Scores[block]
	}
	if scored != 48 {
		t.Errorf("the scores were %v, and are %v", was.Scores, v.Scores)
	}
	d.wantAll()
}

// It is worn out by one of its moves: those that wait behind it aren't moved, and nothing is noted.
func TestTendThatWearsOut(t *testing.T) {
	for after := range 8 {
		d := withBad(t, 2)
		d.counted = false
		for range 7 {
			d.tend()
		}
		was := d.view()
		var waiting []int
		for block, state := range was.States {
			if state == api.Full && len(inBlock(was, block)) > 1 {
				waiting = append(waiting, block)
			}
		}
		reads := slices.Repeat([]int{512}, 12)
		if err := d.core.Seen(reads); err != nil {
			t.Fatal(err)
		}
		d.chip.FailProgram(nextFree(d, d.open())[0], after)
		steps := d.chip.Steps()
		d.tend()
		v := d.view()
		if !d.isWorn() || v.Live != was.Live || v.Reports != 0 || v.Next != was.Next || d.chip.Steps() != steps+after+1 {
			t.Fatalf("%v wait: View() was %+v, and is %+v, %d steps", waiting, was, v, d.chip.Steps()-steps)
		}
		d.wantAll()
		wantDead(t, d.chip, d.core)
	}
}

// What is moved by Tend counts as reported, what is moved otherwise doesn't.
func TestTendCountsItsMoves(t *testing.T) {
	d := newDisk(t)
	d.fill(0)
	for turn := range 30 {
		was := d.view()
		of := turn * 5 % 24
		block := was.Live[of] / 8
		in := len(inBlock(was, block))
		d.hurt(was.Live[of], 0, 2)
		d.wantGet(of)
		bad := count(was.States, api.Bad)
		d.tend()
		v := d.view()
		if v.Reports != was.Reports+1 || v.Moved != was.Moved+in || v.Moves < was.Moves+in || count(v.States, api.Bad) > bad+1 {
			t.Fatalf("turn %d, %d pages: View() was %+v, and is %+v", turn, in, was, v)
		}
		d.wantAll()
	}
}
