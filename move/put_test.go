package move_test

import (
	"bytes"
	"slices"
	"testing"

	"patina/api"
	"patina/nand"
)

// P17.2.

func TestPutOfWhatMayNotBe(t *testing.T) {
	d := newDisk(t)
	d.fill(0)
	for _, of := range noSectors() {
		for _, b := range [][]byte{text(0, 1), nil, make([]byte, 159)} {
			d.wantQuiet(func() {
				if err := d.core.Put(of, b); err != api.ErrArg {
					t.Fatalf("Put(%d, %d bytes): %v", of, len(b), err)
				}
			})
		}
	}
	for of := range 24 {
		for _, many := range []int{0, 1, 58, 159, 161, 173, 174, 175, 320, 4096} {
			d.wantQuiet(func() {
				if err := d.core.Put(of, make([]byte, many)); err != api.ErrArg {
					t.Fatalf("Put(%d, %d bytes): %v", of, many, err)
				}
			})
		}
	}
	d.wantRest()
}

// Each sector: its page has the next seq and the copy 0, its bytes and 14 noughts, at the page behind the last one. It is four steps, and a reading back.
func TestPutOfEachSector(t *testing.T) {
	for of := range 24 {
		d := newDisk(t)
		steps := d.chip.Steps()
		d.put(of, 5)
		v := d.view()
		if v.Live[of] != 1 || v.Next != 3 || v.States != [12]int{api.Open} || v.Reads != [12]int{2} {
			t.Fatalf("Put(%d): %+v", of, v)
		}
		if tag, _ := tagAt(d.chip, 1); tag != (api.Tag{Place: 1, Of: of, Seq: 2}) {
			t.Fatalf("Put(%d): %+v", of, tag)
		}
		data := dataAt(t, d.chip, 1)
		if !bytes.Equal(data[:160], text(of, 5)) || !bytes.Equal(data[160:], make([]byte, 14)) {
			t.Fatalf("Put(%d): %v", of, data)
		}
		if d.chip.Steps() != steps+4 {
			t.Fatalf("Put(%d): %d steps", of, d.chip.Steps()-steps)
		}
		d.wantAll()
	}
}

// All texts are told as they were put: noughts and ff, too. Noughts that were put count.
func TestPutOfNoughtsAndOnes(t *testing.T) {
	d := newDisk(t)
	for of, b := range [][]byte{make([]byte, 160), bytes.Repeat([]byte{0xff}, 160)} {
		if err := d.core.Put(of, b); err != nil {
			t.Fatal(err)
		}
		d.want[of] = b
		d.wantRest()
		d.wantGet(of)
	}
}

// The frontier: one page behind the other, six of a block for sectors, of which the checkpoint takes one in the first; then the next free block.
func TestPutsLieOneBehindTheOther(t *testing.T) {
	d := newDisk(t)
	places := []int{1, 2, 3, 4, 5, 8, 9, 10, 11, 12, 13, 16, 17, 18, 19, 20, 21, 24, 25, 26, 27, 28, 29, 32}
	for of, place := range places {
		d.put(of, of)
		v := d.view()
		if v.Live[of] != place || v.States[place/8] != api.Open || v.Next != int64(of+3) {
			t.Fatalf("Put(%d): %+v", of, v)
		}
		for block := range place / 8 {
			if v.States[block] != api.Full {
				t.Fatalf("Put(%d): the block %d is %d", of, block, v.States[block])
			}
		}
	}
	d.wantAll()
}

// Put over and over: the last one counts.
func TestPutOver(t *testing.T) {
	d := newDisk(t)
	for turn := range 200 {
		d.put(9, turn)
		d.put(turn%9, turn)
		if turn%10 == 0 {
			d.wantAll()
		}
	}
	d.wantAll()
}

// The frontier is opened in a free block as long as more are free than the bound; then the full block with the least that counts is moved first, and its copies' block is gone on with.
func TestPutMovesABlockWhenNoneIsSpare(t *testing.T) {
	for bad := range 3 {
		var k api.Checkpoint
		for block := range bad {
			k.Bad[3*block] = true
		}
		d := &disk{T: t, chip: nand.New(), counted: true, knowing: true}
		d.core = begun(t, d.chip, k, nil)
		d.clean()
		moves := 0
		for turn := range 300 {
			was := d.view()
			of := turn * 5 % 24
			// A sector finds no room where the next page is the seventh one, which the places that were taken tell.
			full := d.open() >= 0 && taken(d, d.open()) > 5
			d.put(of, turn)
			v := d.view()
			switch {
			case !full:
				if v.States != was.States || v.Moves != was.Moves {
					t.Fatalf("there was room, %+v became %+v", was, v)
				}
			case count(was.States, api.Free) > boundOf(bad):
				if v.Moves != was.Moves || count(v.States, api.Free) != count(was.States, api.Free)-1 {
					t.Fatalf("a block was spare, %+v became %+v", was, v)
				}
			default:
				moves++
				d.wantCleared(was, v, of)
			}
		}
		if moves == 0 {
			t.Error("no block was moved")
		}
		d.wantAll()
		if n := count(d.view().States, api.Bad); n != bad {
			t.Errorf("%d blocks are bad, %d were", n, bad)
		}
	}
}

// taken is how many pages of a block are programmed.
func taken(d *disk, block int) int {
	many := 0
	for place := 8 * block; place < 8*block+8; place++ {
		if _, is := tagAt(d.chip, place); is {
			many++
		}
	}
	return many
}

// wantCleared holds what a put of a sector did, where no block was spare: of the blocks that were full, and of the frontier, that with the least that counts is free now.
func (d *disk) wantCleared(was, v api.View, of int) {
	d.Helper()
	live := livesOf(was)
	least := -1
	for block, state := range was.States {
		if (state == api.Full || state == api.Open) && (least < 0 || live[block] < live[least]) {
			least = block
		}
	}
	if live[least] == 0 {
		// Nothing is copied; the block is erased, and one is spare.
		if v.Moves != was.Moves {
			d.Fatalf("%+v became %+v", was, v)
		}
		return
	}
	if v.States[least] != api.Free || v.Moves != was.Moves+live[least] {
		d.Fatalf("the block %d was to be moved, %+v became %+v", least, was, v)
	}
	if count(v.States, api.Free) != count(was.States, api.Free) {
		d.Fatalf("%+v became %+v", was, v)
	}
	// The copies lie from the first page on, the sector behind them.
	to := d.open()
	in := inBlock(was, least)
	for i, number := range in {
		if tag, is := tagAt(d.chip, 8*to+i); !is || tag.Of != number || tag.Copy == 0 {
			d.Fatalf("the page %d has %+v, want the number %d", 8*to+i, tag, number)
		}
	}
	if v.Live[of] != 8*to+len(in) {
		d.Fatalf("the sector %d lies at %d, %+v became %+v", of, v.Live[of], was, v)
	}
}

// In any order, without end: no block becomes bad if none fails.
func TestPutsWithoutEnd(t *testing.T) {
	t.Parallel()
	for kind := range 4 {
		d := newDisk(t)
		s := source(kind)
		for turn := range 1500 {
			of := turn % 24
			switch kind {
			case 1:
				of = s.below(24)
			case 2:
				of = min(s.below(24), s.below(24), s.below(24))
			case 3:
				of = turn * turn % 24
			}
			d.put(of, turn)
		}
		d.wantAll()
		if n := count(d.view().States, api.Bad); n != 0 {
			t.Errorf("%d blocks are bad", n)
		}
	}
}

// With more than SpareBlocks blocks bad: ErrWornOut, and nothing is done; with fewer it is done.
func TestPutWithBadBlocks(t *testing.T) {
	for bad := range 13 {
		var k api.Checkpoint
		for block := range bad {
			k.Bad[11-block] = true
		}
		chip := nand.New()
		core := begun(t, chip, k, nil)
		err := core.Put(7, text(7, 7))
		if bad <= 2 && err != nil || bad > 2 && (err != api.ErrWornOut || chip.Steps() != 0) {
			t.Errorf("%d blocks are bad, Put(7): %v, %d steps", bad, err, chip.Steps())
		}
		if err := core.Put(24, text(7, 7)); err != api.ErrArg {
			t.Errorf("%d blocks are bad, Put(24): %v", bad, err)
		}
		if err := core.Put(7, nil); err != api.ErrArg {
			t.Errorf("%d blocks are bad, Put(7, nil): %v", bad, err)
		}
		want := make([]byte, 160)
		if bad <= 2 {
			want = text(7, 7)
		}
		if got, err := core.Get(7); err != nil || !bytes.Equal(got, want) {
			t.Errorf("%d blocks are bad, Get(7): %v, %v", bad, got, err)
		}
	}
}

// A frontier that fails at any chunk of any of its pages: its block is bad, what lay in it is elsewhere, the sector is put with a new seq.
func TestPutWhereTheFrontierFails(t *testing.T) {
	for ahead := range 5 {
		for chunk := range 4 {
			d := newDisk(t)
			for of := range ahead {
				d.put(of, 1)
			}
			was := d.view()
			d.chip.FailProgram(0, chunk)
			d.put(20, 2)
			v := d.view()
			if v.States != [12]int{api.Bad, api.Open} {
				t.Fatalf("the states are %v", v.States)
			}
			// In the next block: the copies by rising place, without the checkpoint; a new checkpoint; the sector.
			for of := range ahead {
				if tag, _ := tagAt(d.chip, 8+of); tag != (api.Tag{Place: 8 + of, Of: of, Seq: int64(of + 2), Copy: 1}) {
					t.Fatalf("the sector %d has %+v", of, tag)
				}
			}
			if v.Live[24] != 8+ahead || v.Live[20] != 8+ahead+1 {
				t.Fatalf("View(): %+v", v)
			}
			point, _ := tagAt(d.chip, v.Live[24])
			sector, _ := tagAt(d.chip, v.Live[20])
			if point.Seq <= was.Next-1 || sector.Seq <= point.Seq || point.Copy != 0 || sector.Copy != 0 || v.Next != sector.Seq+1 {
				t.Fatalf("Next was %d; the checkpoint has %+v, the sector %+v", was.Next, point, sector)
			}
			if v.Moves != ahead+1 || v.Reports != 0 || v.Moved != 0 {
				t.Fatalf("View(): %+v", v)
			}
			if k := seen(t, d.chip).point; k.Bad != [12]bool{true} || k.Next != point.Seq {
				t.Fatalf("the checkpoint is %+v", k)
			}
			d.wantAll()
		}
	}
}

// A third block that fails: the sector stays as it was, with all others; the block is bad, and nothing is done any more.
func TestPutThatWearsOut(t *testing.T) {
	for chunk := range 4 {
		d := newDisk(t)
		d.fill(0)
		d.vacate(0, true)
		d.vacate(1, true)
		d.put(20, 1)
		d.put(21, 1)
		open, was := d.open(), d.view()
		d.chip.FailProgram(open, chunk)
		if err := d.core.Put(3, text(3, 9)); err != api.ErrWornOut {
			t.Fatalf("Put(3): %v", err)
		}
		v := d.view()
		want := was.States
		want[open] = api.Bad
		if v.Live != was.Live || v.States != want || v.Moves != was.Moves {
			t.Fatalf("View() was %+v, and is %+v", was, v)
		}
		if n := len(inBlock(v, open)); n == 0 {
			t.Fatal("nothing counts in the block that failed")
		}
		d.wantRest()
		d.wantAll()
		wantDead(t, d.chip, d.core)
		d.wantAll()
	}
}

// What is put is taken as it is in that moment.
func TestPutTakesTheBytesAsTheyAre(t *testing.T) {
	d := newDisk(t)
	b := text(5, 5)
	was := slices.Clone(b)
	if err := d.core.Put(5, b); err != nil || !bytes.Equal(b, was) {
		t.Fatalf("Put(5): %v, the bytes are %v", err, b)
	}
	clear(b)
	d.want[5] = was
	d.wantAll()
}
