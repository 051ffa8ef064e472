package move_test

import (
	"bytes"
	"testing"

	"patina/api"
)

// P17.3.

func TestGetOfWhatMayNotBe(t *testing.T) {
	d := newDisk(t)
	d.fill(0)
	for _, of := range noSectors() {
		d.wantQuiet(func() {
			if got, err := d.core.Get(of); got != nil || err != api.ErrArg {
				t.Fatalf("Get(%d): %v, %v", of, got, err)
			}
		})
	}
}

// Where nothing counts there are noughts, and nothing is read.
func TestGetOfWhatNeverWas(t *testing.T) {
	d := newDisk(t)
	for of := range 24 {
		d.wantQuiet(func() { d.wantGet(of) })
	}
}

// Put, put over, trimmed, put again.
func TestGetOfEachSector(t *testing.T) {
	d := newDisk(t)
	for of := range 24 {
		d.put(of, 1)
		d.wantGet(of)
		d.put(of, 2)
		d.wantGet(of)
		d.trim(of)
		d.wantQuiet(func() { d.wantGet(of) })
		d.put(of, 3)
		d.wantGet(of)
	}
	d.wantAll()
}

// It is one read of the sector's block, and no step.
func TestGetIsOneRead(t *testing.T) {
	d := newDisk(t)
	d.fill(0)
	for of := range 24 {
		was, steps := d.view(), d.chip.Steps()
		d.wantGet(of)
		was.Reads[was.Live[of]/8]++
		if v := d.view(); v != was || d.chip.Steps() != steps {
			t.Fatalf("Get(%d): %+v, want %+v", of, v, was)
		}
		d.wantRest()
	}
}

// wantMoved tends, and holds the sector's block to be moved, or not.
func (d *disk) wantMoved(of int, moved bool) {
	d.Helper()
	was := d.view()
	block := was.Live[of] / 8
	d.tend()
	v := d.view()
	if moved == (v.Live[of] == was.Live[of]) || moved != (v.Reports == was.Reports+1) || moved != (v.States[block] == api.Free) {
		d.Fatalf("moved: %v, %+v became %+v", moved, was, v)
	}
}

// Damage of each chunk, from none to four bytes: up to two are put right; from two on the block is reported, and moved at Tend; what can't be read is ErrMedia, and lost from then on.
func TestGetOfDamagedPages(t *testing.T) {
	for chunk := range 4 {
		for many := range 5 {
			d := newDisk(t)
			d.fill(0)
			d.tend() // the patrol goes on to blocks that the sector 3 isn't in
			was := d.view()
			d.hurt(was.Live[3], chunk, many)
			d.lost[3] = many > 2
			d.wantGet(3)
			v := d.view()
			score := 0
			if many >= 2 {
				score = 1
			}
			if v.Scores != [12]int{score} || v.Live != was.Live {
				t.Fatalf("%d bytes of the chunk %d: View() was %+v, and is %+v", many, chunk, was, v)
			}
			d.wantMoved(3, many >= 2)
			d.wantAll()
			d.wantLost(3, many > 2)
			if v := d.view(); v.Scores != [12]int{score} {
				t.Fatalf("the scores are %v", v.Scores)
			}
			d.put(3, 99)
			d.wantAll()
		}
	}
}

// wantLost looks at the tag that a sector has.
func (d *disk) wantLost(of int, lost bool) {
	d.Helper()
	if tag, is := tagAt(d.chip, d.view().Live[of]); !is || tag.Lost != lost {
		d.Fatalf("the sector %d has %+v, want lost: %v", of, tag, lost)
	}
}

// The greatest damage of all chunks counts, not their sum: one byte of each chunk is nothing.
func TestGetOfOneByteOfEachChunk(t *testing.T) {
	d := newDisk(t)
	d.fill(0)
	d.tend()
	for chunk := range 4 {
		d.hurt(d.view().Live[3], chunk, 1)
	}
	d.wantGet(3)
	if v := d.view(); v.Scores != [12]int{} {
		t.Errorf("the scores are %v", v.Scores)
	}
	d.wantMoved(3, false)
	d.wantGet(3)
}

// A chunk that can't be read doesn't hide the others, nor they it.
func TestGetOfSeveralDamagedChunks(t *testing.T) {
	d := newDisk(t)
	d.fill(0)
	d.tend()
	d.hurt(d.view().Live[3], 0, 3)
	d.hurt(d.view().Live[3], 1, 2)
	d.lost[3] = true
	d.wantGet(3)
	d.wantMoved(3, true)
	d.wantAll()
}

// What is lost is ErrMedia, for good, whatever is moved, and it is not damaged: its block stays. Put or trimmed, it is as any other.
func TestGetOfWhatIsLost(t *testing.T) {
	for _, trimmed := range []bool{false, true} {
		d := newDisk(t)
		d.fill(0)
		d.hurt(d.view().Live[3], 1, 4)
		d.lost[3] = true
		d.wantGet(3)
		d.tend()
		d.wantLost(3, true)
		scores := d.view().Scores
		for range 30 {
			d.wantAll()
			d.tend()
		}
		if v := d.view(); v.Scores != scores || v.Reports != 1 {
			t.Fatalf("View(): %+v", v)
		}
		for range 5 {
			d.vacate(d.view().Live[3]/8, false)
			d.wantLost(3, true)
			d.wantAll()
		}
		d.vacate(d.view().Live[3]/8, true)
		d.wantAll()
		if !d.again() {
			t.Fatal("the power went")
		}
		d.wantAll()
		if trimmed {
			d.trim(3)
			d.wantAll()
		}
		d.put(3, 5)
		d.wantLost(3, false)
		d.wantAll()
	}
}

// What is lost, and can't be read then, is lost still.
func TestGetOfWhatIsLostAndDamaged(t *testing.T) {
	d := newDisk(t)
	d.fill(0)
	for range 3 {
		d.hurt(d.view().Live[3], 2, 3)
		d.lost[3] = true
		d.wantGet(3)
		d.tend()
		d.wantLost(3, true)
		data := dataAt(t, d.chip, d.view().Live[3])
		if !bytes.Equal(data, make([]byte, 174)) {
			t.Fatalf("what is lost has %v", data)
		}
		d.wantAll()
	}
}

// Each Get of a damaged page is a report: behind the third one the block is weak, and Tend retires it.
func TestGetsMakeABlockWeak(t *testing.T) {
	for many := range 6 {
		d := newDisk(t)
		d.fill(0)
		d.tend()
		d.hurt(d.view().Live[3], 0, 2)
		for range many {
			d.wantGet(3)
		}
		d.tend()
		want := api.Full
		if many > 0 {
			want = api.Free
		}
		if many > 2 {
			want = api.Bad
		}
		if v := d.view(); v.States[0] != want || v.Scores != [12]int{many} {
			t.Errorf("%d reports: %+v", many, v)
		}
		d.wantAll()
	}
}

// Where too many blocks are bad the sectors are read as before, and reported; nothing is moved.
func TestGetWhenWornOut(t *testing.T) {
	d := worn(t)
	d.wantAll()
	was := d.view()
	d.hurt(was.Live[3], 0, 2)
	for range 5 {
		d.wantGet(3)
	}
	d.tend()
	if v := d.view(); v.Live != was.Live || v.Scores[was.Live[3]/8] < 5 {
		t.Errorf("View() was %+v, and is %+v", was, v)
	}
	d.wantAll()
}

// worn is a disk with all sectors, of which three blocks have failed.
func worn(t *testing.T) *disk {
	t.Helper()
	d := newDisk(t)
	d.fill(0)
	for turn := range 3 {
		d.chip.FailProgram(d.open(), 0)
		if err := d.core.Note(); err != nil && turn < 2 || err != api.ErrWornOut && turn == 2 {
			t.Fatalf("Note(): %v", err)
		}
		d.wantRest()
	}
	if !d.isWorn() {
		t.Fatalf("it isn't worn out: %+v", d.view())
	}
	return d
}
