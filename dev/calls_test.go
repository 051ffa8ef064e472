package dev_test

import (
	"math"
	"testing"

	"patina/api"
)

// P19.3 to P19.5: what is refused, and that nothing is done then (P19.6).

// noSectors are numbers that are no sector's.
func noSectors() []int {
	return []int{-1, 24, 25, 95, 96, 255, 256, -24, 1 << 32, -1 << 32, 1<<32 + 3, math.MaxInt, math.MinInt}
}

// noBytes are such as are no sector's.
func noBytes() [][]byte {
	list := [][]byte{nil}
	for _, many := range []int{0, 1, 80, 159, 161, 174, 320, 1 << 16} {
		list = append(list, make([]byte, many))
	}
	return list
}

// wantRefused asks calls that are refused: nothing is read, programmed, erased or tended.
func wantRefused(d *disk) {
	d.Helper()
	was, view := d.chip.Clone(), d.view()
	for _, of := range noSectors() {
		if got, err := d.dev.Read(of); got != nil || err != api.ErrArg {
			d.Errorf("Read(%d): %v, %v", of, got, err)
		}
		if err := d.dev.Trim(of); err != api.ErrArg {
			d.Errorf("Trim(%d): %v", of, err)
		}
		for _, b := range append(noBytes(), make([]byte, 160)) {
			if err := d.dev.Write(of, b); err != api.ErrArg {
				d.Errorf("Write(%d, %d bytes): %v", of, len(b), err)
			}
		}
	}
	for of := range 24 {
		for _, b := range noBytes() {
			if err := d.dev.Write(of, b); err != api.ErrArg {
				d.Errorf("Write(%d, %d bytes): %v", of, len(b), err)
			}
		}
	}
	wantSameChip(d.T, was, d.chip)
	if d.view() != view {
		d.Errorf("View() was %+v, and is %+v", view, d.view())
	}
}

func TestCallsThatAreRefused(t *testing.T) {
	d := newDisk(t)
	wantRefused(d)
	d.fill(0)
	wantRefused(d)
	// The next pages of the patrol are damaged: if it went on, they would be moved.
	for of := range 24 {
		d.hurt(d.sight.live[of], of%4, 2)
	}
	wantRefused(d)
	d.wantAll()
	// A refusal doesn't meet that the power is off, and the device stays mounted.
	off(t, d.chip)
	wantRefused(d)
	if err := d.write(3, text(3, 900)); err != api.ErrPower {
		t.Errorf("Write(3): %v", err)
	}
	d.mustMount()
	wantRefused(d)
	d.wantAll()
}

// Every number from 0 to 23 is a sector's, and no other from -300 to 300.
func TestWhichNumbersAreSectors(t *testing.T) {
	d := newDisk(t)
	for of := -300; of <= 300; of++ {
		is := of >= 0 && of < 24
		if got, err := d.dev.Read(of); is != (err == nil) || is != (len(got) == 160) {
			t.Errorf("Read(%d): %v, %v", of, got, err)
		}
		if err := d.dev.Write(of, text(1, 1)); is != (err == nil) {
			t.Errorf("Write(%d): %v", of, err)
		}
		if err := d.dev.Trim(of); is != (err == nil) {
			t.Errorf("Trim(%d): %v", of, err)
		}
	}
}

// Each sector has its own bytes, whatever they are; trimmed it has noughts.
func TestEachSectorIsItsOwn(t *testing.T) {
	d := newDisk(t)
	d.wantAll()
	d.fill(0)
	d.wantAll()
	for of := range 24 {
		d.must(d.write(of, []byte(empty)))
		d.must(d.read(of))
		d.must(d.trim(of))
		d.must(d.trim(of))
		d.must(d.read((of + 1) % 24))
	}
	d.wantAll()
}
