package mount_test

import (
	"testing"

	"patina/api"
	"patina/nand"
)

// P18.2: which checkpoint is taken: the Newest whose data can be read and are a checkpoint's.

// cursored is a checkpoint that is known by its cursor, and tells a floor by which it is known as well: of the sector 1, whose pages have the seqs 1 to 9.
func cursored(cursor int, floor int64) api.Checkpoint {
	k := api.Checkpoint{Next: 30, Cursor: cursor}
	k.Floors[1] = floor
	k.Scores[0], k.Reads[0] = cursor, 2*cursor
	return k
}

// wantTaken mounts a chip: the checkpoint with that cursor is taken, and that at the place counts.
func wantTaken(t *testing.T, chip *nand.Chip, cursor, place int) *disk {
	t.Helper()
	d := &disk{T: t, chip: chip}
	d.mountAnyhow()
	v := d.view()
	if v.Cursor != cursor || v.Scores[0] != cursor || v.States[0] != api.Free && v.Reads[0] != 2*cursor+8 {
		t.Fatalf("the cursor is %d, the score %d, there are %d reads, the checkpoint of %d is due", v.Cursor, v.Scores[0], v.Reads[0], cursor)
	}
	if v.Live[24] != place {
		t.Fatalf("the checkpoint lies at %d, want %d", v.Live[24], place)
	}
	return d
}

// three lays a sector, and three checkpoints, of the cursors 10, 20 and 30, in blocks of their own.
func three(t *testing.T) *nand.Chip {
	t.Helper()
	chip := nand.New()
	laySector(t, chip, 0, 1, 5)
	laySector(t, chip, 1, 1, 7)
	layPoint(t, chip, 8, 10, 0, cursored(10, 0))
	layPoint(t, chip, 16, 12, 0, cursored(30, 7))
	layPoint(t, chip, 24, 11, 0, cursored(20, 5))
	return chip
}

func TestTheNewestCheckpointIsTaken(t *testing.T) {
	d := wantTaken(t, three(t), 30, 16)
	if v := d.view(); v.Live[1] != -1 || v.Next != 30 || v.States != [12]int{0, 0, api.Full} {
		t.Errorf("View(): %+v", v)
	}
}

// Where it can't be read the next one is asked, and the next: but it is the page that counts, and its seq was used.
func TestTheNextCheckpointIsTaken(t *testing.T) {
	for chunk := range 3 {
		for many := 1; many < 5; many++ {
			chip := three(t)
			hurt(chip, 16, chunk, many)
			if many <= 2 {
				wantTaken(t, chip, 30, 16)
				continue
			}
			d := wantTaken(t, chip, 20, 16)
			if v := d.view(); v.Live[1] != 1 || v.Next != 30 || v.States != [12]int{api.Full, 0, api.Full} {
				t.Errorf("View(): %+v", v)
			}
			chip = three(t)
			hurt(chip, 16, chunk, many)
			hurt(chip, 24, 2-chunk, many)
			wantTaken(t, chip, 10, 16)
		}
	}
}

// One whose tag can't be read isn't found at all: then the next one counts.
func TestACheckpointWithoutItsTag(t *testing.T) {
	for many := 3; many < 5; many++ {
		chip := three(t)
		hurt(chip, 16, 3, many)
		d := wantTaken(t, chip, 20, 24)
		if v := d.view(); v.Live[1] != 1 || v.States != [12]int{api.Full, 0, 0, api.Full} {
			t.Errorf("View(): %+v", v)
		}
	}
}

// One whose data lie there, but are no checkpoint's, is passed over as one that can't be read.
func TestDataThatAreNoCheckpoint(t *testing.T) {
	for _, wrong := range []func(data []byte){
		func(data []byte) { data[173] = 1 },
		func(data []byte) { data[164] = 128 },
		func(data []byte) { data[126] = 16 },
		func(data []byte) { data[127] = 96 },
	} {
		chip := three(t)
		data := make([]byte, 174)
		data[127] = 50
		wrong(data)
		lay(t, chip, api.Tag{Place: 90, Of: 24, Seq: 99}, data)
		d := wantTaken(t, chip, 30, 90)
		if v := d.view(); v.Next != 100 {
			t.Errorf("Next is %d", v.Next)
		}
	}
}

// Data of noughts are a checkpoint's.
func TestACheckpointOfNoughts(t *testing.T) {
	chip := three(t)
	layPoint(t, chip, 90, 99, 0, api.Checkpoint{})
	d := wantTaken(t, chip, 0, 90)
	if v := d.view(); v.Next != 100 || v.Live[1] != 1 {
		t.Errorf("View(): %+v", v)
	}
}

// A sector's data are never a checkpoint's, whatever they are.
func TestASectorIsNoCheckpoint(t *testing.T) {
	chip := nand.New()
	lay(t, chip, api.Tag{Place: 0, Of: 3, Seq: 99}, nil)
	over(t, chip)
	chip = three(t)
	lay(t, chip, api.Tag{Place: 64, Of: 23, Seq: 99}, nil)
	d := wantTaken(t, chip, 30, 16)
	if v := d.view(); v.Live[23] != 64 || v.Next != 100 {
		t.Errorf("View(): %+v", v)
	}
}

// Of several copies the elder one is asked first; where that can't be read, the next copy is, of the same seq.
func TestCopiesOfACheckpoint(t *testing.T) {
	for _, first := range []int{0, 7, 254, 255} {
		for turned := range 2 {
			chip := three(t)
			places := [2]int{40, 80}
			elder, younger := places[turned], places[1-turned]
			layPoint(t, chip, younger, 60, (first+1)%256, cursored(61, 0))
			layPoint(t, chip, elder, 60, first, cursored(60, 0))
			wantTaken(t, chip.Clone(), 60, elder)
			hurt(chip, elder, 0, 3)
			wantTaken(t, chip.Clone(), 61, elder)
			both := chip.Clone()
			hurt(both, younger, 1, 4)
			wantTaken(t, both, 30, elder)
			hurt(chip, elder, 3, 3)
			wantTaken(t, chip, 61, younger)
		}
	}
}

// Where none can be read, or there is none, the chip is new: nothing counts, and all is erased.
func TestNoCheckpoint(t *testing.T) {
	unread := three(t)
	for _, place := range []int{8, 16, 24} {
		hurt(unread, place, 1, 3)
	}
	untagged := three(t)
	for _, place := range []int{8, 16, 24} {
		hurt(untagged, place, 3, 4)
	}
	alone := nand.New()
	for of := range 24 {
		laySector(t, alone, of/6*8+of%6, of, int64(100+of))
	}
	wrong := nand.New()
	lay(t, wrong, api.Tag{Place: 7, Of: 24, Seq: 1 << 30}, text(1, 1))
	layChunks(t, wrong, 15, chunksOf(t, api.Tag{Place: 15, Of: 24, Seq: 3}, nil), 3)
	for i, chip := range []*nand.Chip{nand.New(), unread, untagged, alone, wrong} {
		d := &disk{T: t, chip: chip}
		d.mountAnyhow()
		if v := d.view(); v != newView() {
			t.Errorf("%d: View() is %+v", i, v)
		}
		for block := 1; block < 12; block++ {
			if !isErased(chip, block) {
				t.Errorf("%d: the block %d isn't erased", i, block)
			}
		}
		d.wantAll()
		d.wantRest()
		d.mount()
		d.wantAll()
	}
}

// Many that can't be read: each of them is asked, down to the last.
func TestManyCheckpointsThatCantBeRead(t *testing.T) {
	for readable := range 40 {
		chip := nand.New()
		for i := range 40 {
			place := 8*(i/4) + []int{0, 6, 3, 7}[i%4]
			layPoint(t, chip, place, int64(1+i*7%40), 0, cursored(1+i*7%40, 0))
			if i*7%40 > readable {
				hurt(chip, place, i%3, 3)
			}
		}
		newest := 0
		for i := range 40 {
			if i*7%40 == 39 {
				newest = 8*(i/4) + []int{0, 6, 3, 7}[i%4]
			}
		}
		wantTaken(t, chip, 1+readable, newest)
	}
}

// A checkpoint that lies in a block which it tells as bad is taken, though it doesn't count: so another one is programmed, which tells the same.
func TestACheckpointInABadBlock(t *testing.T) {
	chip := nand.New()
	k := cursored(44, 0)
	k.Bad[2] = true
	layPoint(t, chip, 16, 9, 0, k)
	laySector(t, chip, 17, 5, 8)
	laySector(t, chip, 24, 6, 8)
	d := &disk{T: t, chip: chip}
	d.mountAnyhow()
	v := d.view()
	if v.Cursor != 44 || v.States != [12]int{api.Open, 0, api.Bad, api.Full} || v.Live[24] != 0 || v.Live[5] != -1 || v.Live[6] != 24 || v.Next != 31 {
		t.Errorf("View(): %+v", v)
	}
	d.want[6] = text(6, 8)
	d.wantAll()
	d.wantRest()
	d.mount()
	d.wantAll()
}

// The seqs at their greatest: the newest is taken, and there is no next one.
func TestTheGreatestSeq(t *testing.T) {
	chip := three(t)
	layPoint(t, chip, 95, 1<<40-1, 0, cursored(77, 0))
	d := wantTaken(t, chip, 77, 95)
	if v := d.view(); v.Next != 1<<40-1 {
		t.Errorf("Next is %d", v.Next)
	}
	if err := d.core.Put(3, text(3, 3)); err != api.ErrWornOut {
		t.Errorf("Put(3): %v", err)
	}
}
