package mount_test

import (
	"bytes"
	"errors"
	"slices"
	"sync"
	"testing"

	"patina/api"
	"patina/mount"
	"patina/move"
	"patina/nand"
)

// R1 to R4: nothing panics, an error is a Code itself, what is answered is the caller's own, and hangs on the chip alone.

// isOne tells whether an error is nil, or one of these Codes itself.
func isOne(err error, codes ...api.Code) bool {
	var code api.Code
	return err == nil || errors.As(err, &code) && error(code) == err && slices.Contains(codes, code)
}

// junk is a chip of pages of any kind: whole ones, of any number, seq and copy, some chunks alone, chunks of any bytes, and bits turned.
func (s *source) junk(t *testing.T, pages, flips int) *nand.Chip {
	t.Helper()
	chip := nand.New()
	for range pages {
		place := s.below(96)
		mark := api.Tag{Place: place, Of: s.below(25), Seq: int64(1 + s.below(30)), Copy: s.below(256)}
		if place%8 > 5 || s.below(4) == 0 {
			mark.Of = 24
		}
		if s.below(12) == 0 {
			mark.Seq = 1<<40 - 1 - int64(s.below(3))
		}
		mark.Lost = mark.Of < 24 && s.below(5) == 0
		data := make([]byte, 174)
		for i := range data {
			if mark.Of < 24 || i < 120 && s.below(3) == 0 || i == 125 && s.below(3) == 0 {
				data[i] = byte(s.below(256))
			}
		}
		for chunk, word := range chunksOf(t, mark, data) {
			if s.below(25) > 0 {
				chip.Write(place, chunk, word)
			}
		}
	}
	for range flips {
		chip.Flip(s.below(96), s.below(2048))
	}
	return chip
}

// Chips on which anything lies: each is scanned and mounted, and what is put then is read.
func TestMountOfAnyChip(t *testing.T) {
	t.Parallel()
	s := source(31)
	for turn := range 120 {
		chip := s.junk(t, s.below(160), turn%4*s.below(900))
		if l, err := mount.Scan(chip); err != nil || !slices.IsSortedFunc(l, func(a, b api.Found) int { return a.Place - b.Place }) {
			t.Fatalf("Scan: %v, %v", l, err)
		}
		if turn%3 == 0 {
			harm{s.below(12), s.below(8) - 3}.doTo(chip)
			harm{s.below(12), s.below(8) - 3}.doTo(chip)
		}
		chip.Cut(s.below(20))
		if core, err := mount.Mount(chip); (core == nil) != (err != nil) || !isOne(err, api.ErrPower) {
			t.Fatalf("Mount: %v, %v", core, err)
		}
		chip.Power()
		core, err := mount.Mount(chip)
		if core == nil || err != nil {
			t.Fatalf("Mount: %v, %v", core, err)
		}
		s.wantGoesOn(t, core)
	}
}

// wantGoesOn calls a core of any chip: each call ends, with an error that its promise names, and what was put is read.
func (s *source) wantGoesOn(t *testing.T, core *move.Core) {
	t.Helper()
	for of := range 24 {
		if _, err := core.Get(of); !isOne(err, api.ErrMedia) {
			t.Fatalf("Get(%d): %v", of, err)
		}
	}
	for range 6 {
		of := s.below(24)
		err := core.Put(of, text(of, 5))
		if !isOne(err, api.ErrWornOut) {
			t.Fatalf("Put(%d): %v", of, err)
		}
		if got, wrong := core.Get(of); err == nil && (wrong != nil || !bytes.Equal(got, text(of, 5))) {
			t.Fatalf("Get(%d): %v, %v", of, got, wrong)
		}
		if err := core.Tend(); err != nil {
			t.Fatalf("Tend(): %v", err)
		}
		if err := core.Vacate(s.below(12), s.below(3) == 0); !isOne(err, api.ErrState, api.ErrWornOut) {
			t.Fatalf("Vacate: %v", err)
		}
	}
}

// The list that Scan answers is the caller's, its spare room too.
func TestScansAreTheCallersOwn(t *testing.T) {
	d := started(t)
	d.fill(0)
	first, _ := mount.Scan(d.chip)
	second, _ := mount.Scan(d.chip)
	clear(first[:cap(first)])
	if !slices.Equal(second, tagsOf(d.chip)) {
		t.Error("two answers share memory")
	}
	wantScan(t, d.chip, tagsOf(d.chip))
	d.mount()
	clear(second[:cap(second)])
	d.wantRest()
	d.wantAll()
}

// The same chip is scanned and mounted as the same, whatever was done with others meanwhile.
func TestMountsDontTouchEachOther(t *testing.T) {
	t.Parallel()
	s1, s2, s3 := source(41), source(41), source(42)
	alone, mixed, other := newDisk(t), newDisk(t), newDisk(t)
	for turn := range 60 {
		if turn == 30 {
			alone.chip.FailErase(4)
			mixed.chip.FailErase(4)
		}
		alone.turn(&s1, turn)
		mixed.turn(&s2, turn)
		other.turn(&s3, turn+500)
		if turn%12 == 0 {
			alone.mountAnyhow()
			other.mountAnyhow()
			mixed.mountAnyhow()
			other.decay(&s3)
		}
		if alone.view() != mixed.view() {
			t.Fatalf("turn %d: %+v and %+v", turn, alone.view(), mixed.view())
		}
	}
	wantSameChip(t, alone.chip, mixed.chip)
	alone.wantAll()
	mixed.wantAll()
	other.wantAll()
}

// Two chips that stand alike are mounted alike, step by step.
func TestMountHangsOnTheChipAlone(t *testing.T) {
	s := source(51)
	for range 15 {
		chip := s.junk(t, 60, s.below(300))
		a, b := chip.Clone(), chip.Clone()
		first, err := mount.Mount(a)
		second, wrong := mount.Mount(b)
		if first == nil || second == nil || err != nil || wrong != nil {
			t.Fatalf("Mount: %v, %v", err, wrong)
		}
		if first.View() != second.View() {
			t.Fatalf("%+v and %+v", first.View(), second.View())
		}
		wantSameChip(t, a, b)
	}
}

// The chip is the same one from then on: what is done to it by others is seen.
func TestTheChipIsKept(t *testing.T) {
	d := newDisk(t)
	d.put(3, 1)
	d.mount()
	hurt(d.chip, 1, 0, 3)
	if got, err := d.core.Get(3); got != nil || err != api.ErrMedia {
		t.Errorf("Get(3): %v, %v", got, err)
	}
	hurt(d.chip, 1, 0, 3) // turned back
	d.wantAll()
	off(t, d.chip)
	if got, err := d.core.Get(3); got != nil || err != api.ErrPower {
		t.Errorf("Get(3): %v, %v", got, err)
	}
}

// Several chips are mounted at one time.
func TestMountsAtOneTime(t *testing.T) {
	var all sync.WaitGroup
	disks := make([]*disk, 6)
	for i := range disks {
		disks[i] = started(t)
		disks[i].fill(10 * i)
		disks[i].trim(i)
	}
	for _, d := range disks {
		all.Go(func() {
			core, err := mount.Mount(d.chip)
			if err == nil {
				d.core = core
			}
			mount.Scan(d.chip)
		})
	}
	all.Wait()
	for _, d := range disks {
		d.wantAll()
		d.wantRest()
	}
}
