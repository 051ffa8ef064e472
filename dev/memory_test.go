package dev_test

import (
	"bytes"
	"errors"
	"slices"
	"sync"
	"testing"

	"patina/api"
	"patina/dev"
	"patina/nand"
)

// R1 to R4: nothing panics, an error is a Code itself, what is handed in is neither changed nor kept, what is answered is the caller's own, and hangs on nothing else than the chip and the calls.

// isOne tells whether an error is nil, or one of these Codes itself.
func isOne(err error, codes ...api.Code) bool {
	var code api.Code
	return err == nil || errors.As(err, &code) && error(code) == err && slices.Contains(codes, code)
}

// What is handed in is not changed, whether it is taken or refused, and not kept: changed by the caller it changes nothing.
func TestWhatIsHandedIn(t *testing.T) {
	d := newDisk(t)
	room := make([]byte, 400)
	b := room[:160]
	for turn := range 40 {
		of := turn * 7 % 24
		copy(b, text(of, turn))
		for i := range room[160:] {
			room[160+i] = byte(i + turn)
		}
		was := bytes.Clone(room)
		d.must(d.write(of, b))
		d.dev.Write(24, b)
		d.dev.Write(of, b[:159])
		d.dev.Write(of, room)
		if !bytes.Equal(room, was) {
			t.Fatal("it was changed")
		}
		clear(room)
		d.must(d.read(of))
	}
	d.wantSound()
}

// What Read answers is the caller's, its spare room too: changed by the caller it changes nothing, and no two answers share anything.
func TestWhatIsAnswered(t *testing.T) {
	d := full(t)
	d.must(d.trim(5))
	for of := range 24 {
		first, err := d.dev.Read(of)
		d.must(err)
		second, err := d.dev.Read(of)
		d.must(err)
		spoil := first[:cap(first)]
		for i := range spoil {
			spoil[i] ^= 255
		}
		if string(second) != d.may[of][0] {
			t.Fatalf("two answers of the sector %d share memory", of)
		}
		third, err := d.dev.Read(of)
		if err != nil || string(third) != d.may[of][0] {
			t.Fatalf("Read(%d): %v, %v", of, third, err)
		}
	}
	d.look()
	d.cursor = d.view().Cursor
	v := d.view()
	v.Live[3], v.States[0], v.Reads[1] = 77, 3, 9999
	d.wantRest()
	d.wantSound()
}

// Two devices on two chips don't touch each other: one that is called among calls of another answers as one that is called alone.
func TestTwoDevices(t *testing.T) {
	t.Parallel()
	s1, s2, s3 := source(41), source(41), source(42)
	alone, mixed, other := newDisk(t), newDisk(t), newDisk(t)
	h := harms{fail: 1, bits: 4, data: 4, cuts: 9}
	for turn := range 6 {
		alone.run(&s1, h, 20)
		other.run(&s3, harms{fail: 1, bits: 6, data: 4, cuts: 4}, 8+turn)
		mixed.run(&s2, h, 20)
		if alone.view() != mixed.view() {
			t.Fatalf("turn %d: %+v and %+v", turn, alone.view(), mixed.view())
		}
		wantSameChip(t, alone.chip, mixed.chip)
	}
	for of := range 24 {
		first, err := alone.dev.Read(of)
		second, wrong := mixed.dev.Read(of)
		if err != wrong || !bytes.Equal(first, second) {
			t.Errorf("Read(%d): %v, %v and %v, %v", of, first, err, second, wrong)
		}
	}
}

// Two devices on chips that stand alike answer alike, whatever was done ahead.
func TestAnswersHangOnTheChip(t *testing.T) {
	t.Parallel()
	for start := range 6 {
		s := source(50 + start)
		d := newDisk(t)
		d.run(&s, harms{fail: start % 3, bits: start, data: 4, cuts: 8}, 60)
		a, b := mounted(t, d.chip.Clone()), mounted(t, d.chip.Clone())
		s1, s2 := source(start), source(start)
		for turn := range 30 {
			a.weak, b.weak = d.weak, d.weak
			a.turn(&s1, turn)
			b.turn(&s2, turn)
			if a.view() != b.view() {
				t.Fatalf("%+v and %+v", a.view(), b.view())
			}
		}
		wantSameChip(t, a.chip, b.chip)
	}
}

// The chip is the same one from then on: what is done to it by others is seen.
func TestTheChipIsKept(t *testing.T) {
	chip := nand.New()
	d := mounted(t, chip)
	d.must(d.write(3, text(3, 3)))
	place := d.view().Live[3]
	d.hurt(place, 0, 2)
	d.must(d.read(3))
	if d.view().Live[3] == place {
		t.Error("the chip's decay wasn't seen")
	}
	d.hurt(d.view().Live[3], 1, 4)
	d.wantLost(3)
	off(t, chip)
	if err := d.read(3); err != api.ErrPower {
		t.Errorf("Read(3): %v", err)
	}
}

// junk is a chip whose chunks and bits are any.
func (s *source) junk(d *disk, bits int) *nand.Chip {
	chip := d.chip.Clone()
	for range bits {
		chip.Flip(s.below(96), s.below(2048))
	}
	for range s.below(60) {
		word := make([]byte, 64)
		for i := range word {
			word[i] = byte(s.below(256))
		}
		chip.Write(s.below(96), s.below(4), word)
	}
	return chip
}

// Beyond what is borne nothing is promised but this: each call ends, with an error that its promise names, itself.
func TestNothingPanics(t *testing.T) {
	t.Parallel()
	s := source(61)
	base := full(t)
	for turn := range 60 {
		chip := s.junk(base, s.below(1+turn*40))
		d, err := dev.New(chip)
		if err != nil {
			t.Fatal(err)
		}
		for call := range 40 {
			s.anyHarm(chip)
			of := s.below(28) - 2
			_, errRead := d.Read(of)
			errWrite := d.Write(of, make([]byte, 158+s.below(4)))
			errTrim := d.Trim(of)
			for _, err := range []error{errRead, errWrite, errTrim} {
				if !isOne(err, api.ErrArg, api.ErrNotMounted, api.ErrMedia, api.ErrWornOut, api.ErrPower) {
					t.Fatalf("call %d: %v", call, err)
				}
			}
			if errRead == api.ErrWornOut || errWrite == api.ErrMedia || errTrim == api.ErrMedia {
				t.Fatalf("%v, %v, %v", errRead, errWrite, errTrim)
			}
			if _, err := d.Report(); !isOne(err, api.ErrNotMounted) {
				t.Fatal(err)
			}
			if call%4 == 0 {
				chip.Power()
			}
			if call%3 == 0 {
				if err := d.Mount(); !isOne(err, api.ErrState, api.ErrPower) {
					t.Fatalf("Mount(): %v", err)
				}
			}
		}
	}
}

// anyHarm does anything to a chip.
func (s *source) anyHarm(chip *nand.Chip) {
	switch s.below(30) {
	case 0:
		chip.FailProgram(s.below(12), s.below(20))
	case 1:
		chip.FailErase(s.below(12))
	case 2, 3:
		chip.Cut(s.below(20))
	case 4:
		chip.Erase(s.below(12))
	case 5, 6, 7, 8:
		for range s.below(50) {
			chip.Flip(s.below(96), s.below(2048))
		}
	}
}

// Several devices are called at one time, each on a chip of its own.
func TestDevicesAtOneTime(t *testing.T) {
	t.Parallel()
	var all sync.WaitGroup
	devices := make([]*dev.Device, 6)
	wrong := make([]error, len(devices))
	for i := range devices {
		devices[i], _ = dev.New(nand.New())
	}
	for i, d := range devices {
		all.Go(func() {
			wrong[i] = d.Mount()
			for turn := range 60 {
				if err := d.Write(turn%24, text(turn%24, turn+i)); err != nil {
					wrong[i] = err
				}
			}
		})
	}
	all.Wait()
	for i, d := range devices {
		for of := range 24 {
			turn := of
			for turn+24 < 60 {
				turn += 24
			}
			if got, err := d.Read(of); wrong[i] != nil || err != nil || !bytes.Equal(got, text(of, turn+i)) {
				t.Fatalf("the device %d: Read(%d): %v, %v, %v", i, of, got, err, wrong[i])
			}
		}
	}
}
