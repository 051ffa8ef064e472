package dev_test

import (
	"bytes"
	"testing"

	"patina/api"
	"patina/dev"
	"patina/nand"
)

// The examples of the chapter's table, and the document's ten of the whole.

func TestExamples(t *testing.T) {
	chip := nand.New()
	d, err := dev.New(chip)
	if d == nil || err != nil {
		t.Fatalf("New: %v, %v", d, err)
	}
	wantRead := func(of int, want []byte, wrong error) {
		t.Helper()
		if got, err := d.Read(of); err != wrong || !bytes.Equal(got, want) {
			t.Errorf("Read(%d): %v, %v", of, got, err)
		}
	}
	wantErr := func(err, want error) {
		t.Helper()
		if err != want {
			t.Errorf("%v, want %v", err, want)
		}
	}
	nothing, fives := make([]byte, 160), bytes.Repeat([]byte{5}, 160)
	wantRead(0, nil, api.ErrNotMounted)
	wantErr(d.Mount(), nil)
	wantErr(d.Mount(), api.ErrState)
	wantRead(0, nothing, nil)

	wantErr(d.Write(3, fives), nil)
	wantRead(3, fives, nil)
	wantErr(d.Trim(3), nil)
	wantRead(3, nothing, nil)

	wantErr(d.Write(24, fives), api.ErrArg)
	wantErr(d.Write(0, fives[:159]), api.ErrArg)
	wantRead(-1, nil, api.ErrArg)

	wantErr(chip.Cut(0), nil)
	wantErr(d.Write(0, fives), api.ErrPower)
	wantRead(0, nil, api.ErrNotMounted)
	wantErr(d.Mount(), api.ErrPower)
	chip.Power()
	wantErr(d.Mount(), nil)
	wantRead(0, nothing, nil)
}

// 1: a new chip.
func TestExampleOfANewChip(t *testing.T) {
	d := newDisk(t)
	if v := d.view(); v.Live[24] != 0 || v.States != [12]int{api.Open} {
		t.Errorf("Report(): %+v", v)
	}
	for of := range 24 {
		if d.may[of][0] != empty {
			t.Errorf("the sector %d has %q", of, d.may[of])
		}
	}
	d.wantAll()
}

// 2, 3: two bits of two bytes, and one.
func TestExampleOfTurnedBits(t *testing.T) {
	for many := 1; many < 3; many++ {
		d := newDisk(t)
		d.must(d.write(3, text(3, 3)))
		place := d.view().Live[3]
		for i := range many {
			d.flip(place, 100*i)
		}
		d.must(d.read(3))
		if v := d.view(); (v.Live[3]/8 != place/8) != (many == 2) || v.Reports != many-1 {
			t.Errorf("%d bits: it lay at %d, %+v", many, place, v)
		}
		d.must(d.read(3))
	}
}

// 4: three bytes of one codeword.
func TestExampleOfALostSector(t *testing.T) {
	d := full(t)
	d.hurt(d.view().Live[3], 1, 3)
	for range 30 {
		d.wantLost(3)
	}
	d.again()
	d.wantLost(3)
	d.wantOthers(3)
	d.must(d.write(3, text(3, 90)))
	d.wantAll()
}

// 5: the power goes behind the third chunk of a write, and behind the fourth.
func TestExampleOfACutWrite(t *testing.T) {
	for steps := range 5 {
		d := newDisk(t)
		d.must(d.write(3, text(3, 1)))
		d.chip.Cut(steps)
		if err := d.write(3, text(3, 2)); (err == nil) != (steps == 4) || err != nil && err != api.ErrPower {
			t.Errorf("Write(3) behind %d steps: %v", steps, err)
		}
		d.may[3] = []string{string(text(3, 1+steps/4))}
		d.again()
		d.must(d.read(3))
	}
	// The fourth chunk was programmed, and the power went behind it, in what the call does then.
	d := newDisk(t)
	for d.view().Calls != 7 {
		d.must(d.write(3, text(3, 1)))
	}
	d.chip.Cut(4)
	if err := d.write(3, text(3, 2)); err != api.ErrPower {
		t.Errorf("Write(3): %v", err)
	}
	d.may[3] = []string{string(text(3, 2))}
	d.mustMount()
	d.must(d.read(3))
}

// 6: a block fails at a write.
func TestExampleOfAFailure(t *testing.T) {
	d := newDisk(t)
	d.must(d.write(3, text(3, 3)))
	d.must(d.write(4, text(4, 4)))
	d.must(d.chip.FailProgram(0, 0))
	d.must(d.write(5, text(5, 5)))
	v := d.view()
	if v.States[0] != api.Bad || len(inBlock(v, 0)) != 0 || v.Live[3] < 8 || v.Live[4] < 8 || v.Live[5] < 8 {
		t.Errorf("Report(): %+v", v)
	}
	d.wantSound()
}

// 7: three blocks fail.
func TestExampleOfThreeFailures(t *testing.T) {
	d := full(t)
	for many := range 3 {
		d.must(d.chip.FailProgram(d.open(), 0))
		want := []error{nil, nil, api.ErrWornOut}[many]
		if err := d.write(many, text(many, 70)); err != want {
			t.Errorf("Write(%d): %v, want %v", many, err, want)
		}
	}
	for of := range 24 {
		if err := d.write(of, text(of, 71)); err != api.ErrWornOut {
			t.Errorf("Write(%d): %v", of, err)
		}
	}
	d.wantAll()
}

// 8: a sector is trimmed.
func TestExampleOfATrim(t *testing.T) {
	d := full(t)
	was := d.view()
	d.must(d.trim(3))
	tag, _ := tagAt(d.chip, was.Live[3])
	if v := d.view(); v.Live[24] == was.Live[24] || v.Live[3] != -1 || d.sight.point.Floors[3] != tag.Seq {
		t.Errorf("Report() was %+v, and is %+v, the floors are %v", was, v, d.sight.point.Floors)
	}
	for range 4 {
		d.again()
		d.must(d.read(3))
	}
	d.wantAll()
}

// 9: a sector is read 600 times: its block was moved once. (The blocks that it came to then were read by the patrol all the while: they have their own 512 reads.)
func TestExampleOfManyReads(t *testing.T) {
	d := newDisk(t)
	d.must(d.write(3, text(3, 3)))
	place, left, back := d.view().Live[3], 0, 0
	for range 600 {
		was := d.view().Live[3]
		d.must(d.read(3))
		now := d.view().Live[3]
		if was/8 == place/8 && now/8 != place/8 {
			left++
		}
		if was/8 != place/8 && now/8 == place/8 {
			back++
		}
	}
	if left != 1 || back != 0 || d.view().Reports < 1 {
		t.Errorf("it left its block %d times, came back %d times: %+v", left, back, d.view())
	}
}

// 10: a move is cut off behind its third page.
func TestExampleOfAMoveThatIsCutOff(t *testing.T) {
	d := full(t)
	was := d.view()
	d.hurt(was.Live[7], 0, 2)
	d.chip.Cut(12)
	if err := d.read(7); err != api.ErrPower {
		t.Fatalf("Read(7): %v", err)
	}
	copies := 0
	for block, state := range was.States {
		if state == api.Free {
			copies += taken(d.chip, block)
		}
	}
	if copies != 3 {
		t.Fatalf("%d copies", copies)
	}
	d.mustMount()
	v := d.view()
	if v.Live != was.Live || count(v.States, api.Bad) > 0 || v.Scores != was.Scores || failedOf(d.chip) != [12]bool{} {
		t.Errorf("Report() was %+v, and is %+v", was, v)
	}
	for block, state := range v.States {
		if state == api.Free && !isErased(d.chip, block) {
			t.Errorf("the block %d isn't erased", block)
		}
	}
	d.wantSound()
}
