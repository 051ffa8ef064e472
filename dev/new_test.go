package dev_test

import (
	"testing"

	"patina/api"
	"patina/dev"
	"patina/mount"
	"patina/nand"
)

// P19.1, P19.2.

func TestNewOfNoChip(t *testing.T) {
	if d, err := dev.New(nil); d != nil || err != api.ErrArg {
		t.Errorf("New(nil): %v, %v", d, err)
	}
}

// chips are some of any kind: a new one, one that was used, one that was cut in a move, one whose power is off.
func chips(t *testing.T) map[string]*nand.Chip {
	t.Helper()
	used := newDisk(t)
	used.fill(0)
	cut := mounted(t, used.chip.Clone())
	cut.hurt(cut.sight.live[9], 1, 2)
	cut.chip.Cut(9)
	cut.read(9)
	cut.chip.Power()
	without := used.chip.Clone()
	off(t, without)
	return map[string]*nand.Chip{"new": nand.New(), "used": used.chip, "cut": cut.chip, "off": without}
}

// New does nothing with the chip, whichever it is, and the device isn't mounted.
func TestNewDoesNothing(t *testing.T) {
	for name, chip := range chips(t) {
		was := chip.Clone()
		d, err := dev.New(chip)
		if d == nil || err != nil {
			t.Fatalf("New of the %s chip: %v, %v", name, d, err)
		}
		wantSameChip(t, was, chip)
		wantNotMounted(t, d)
		wantSameChip(t, was, chip)
	}
}

// wantNotMounted asks all calls of a device that isn't mounted.
func wantNotMounted(t *testing.T, d *dev.Device) {
	t.Helper()
	for _, of := range append([]int{0, 7, 23}, noSectors()...) {
		if got, err := d.Read(of); got != nil || err != api.ErrNotMounted {
			t.Errorf("Read(%d): %v, %v", of, got, err)
		}
		if err := d.Trim(of); err != api.ErrNotMounted {
			t.Errorf("Trim(%d): %v", of, err)
		}
		for _, many := range []int{0, 1, 159, 160, 161} {
			if err := d.Write(of, make([]byte, many)); err != api.ErrNotMounted {
				t.Errorf("Write(%d, %d bytes): %v", of, many, err)
			}
		}
		if err := d.Write(of, nil); err != api.ErrNotMounted {
			t.Errorf("Write(%d, nil): %v", of, err)
		}
	}
	if v, err := d.Report(); v != (api.View{}) || err != api.ErrNotMounted {
		t.Errorf("Report(): %+v, %v", v, err)
	}
}

// What is mounted is what mount.Mount of that chip gives, step by step and read by read.
func TestMountIsThatOfTheChip(t *testing.T) {
	for name, chip := range chips(t) {
		other := chip.Clone()
		d, err := dev.New(chip)
		if err != nil {
			t.Fatal(err)
		}
		core, want := mount.Mount(other)
		if err := d.Mount(); err != want {
			t.Fatalf("Mount() of the %s chip: %v, want %v", name, err, want)
		}
		wantSameChip(t, chip, other)
		if want != nil {
			wantNotMounted(t, d)
			continue
		}
		if v, err := d.Report(); v != core.View() || err != nil {
			t.Errorf("the %s chip: Report() is %+v, %v, want %+v", name, v, err, core.View())
		}
	}
}

// Mount of one that is mounted: nothing is done, also where the power is off, and it stays mounted.
func TestMountOfOneThatIsMounted(t *testing.T) {
	d := newDisk(t)
	d.fill(0)
	for turn := range 3 {
		if turn == 2 {
			off(t, d.chip)
		}
		was, view := d.chip.Clone(), d.view()
		for range 2 {
			if err := d.dev.Mount(); err != api.ErrState {
				t.Fatalf("Mount(): %v", err)
			}
		}
		wantSameChip(t, was, d.chip)
		if d.view() != view {
			t.Fatalf("View() was %+v, and is %+v", view, d.view())
		}
		if turn == 1 {
			d.wantAll()
		}
	}
	if err := d.read(3); err != api.ErrPower {
		t.Errorf("Read(3): %v", err)
	}
}

// Without power: ErrPower, over and over, and it isn't mounted; with power it is.
func TestMountWithoutPower(t *testing.T) {
	for _, used := range []bool{false, true} {
		d := over(t, nand.New())
		if used {
			d.mustMount()
			d.fill(0)
			d = over(t, d.chip)
		}
		off(t, d.chip)
		was := d.chip.Clone()
		for range 3 {
			if err := d.dev.Mount(); err != api.ErrPower {
				t.Fatalf("Mount(): %v", err)
			}
			wantNotMounted(t, d.dev)
		}
		wantSameChip(t, was, d.chip)
		d.mustMount()
		d.wantAll()
	}
}

// The power goes at each of the mount's own steps: ErrPower, and it isn't mounted; the next one is whole.
func TestMountThatIsCut(t *testing.T) {
	for name, chip := range chips(t) {
		if name == "off" {
			continue
		}
		for budget := 0; ; budget++ {
			d := over(t, chip.Clone())
			d.chip.Cut(budget)
			if d.mount() {
				if least := map[string]int{"new": 16, "used": 5, "cut": 5}[name]; budget < least {
					t.Errorf("a mount of the %s chip of %d steps", name, budget)
				}
				break
			}
			wantNotMounted(t, d.dev)
			if err := d.dev.Mount(); err != api.ErrPower {
				t.Fatalf("Mount(): %v", err)
			}
			d.mustMount()
			d.must(d.read(9))
		}
	}
}
