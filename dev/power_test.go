package dev_test

import (
	"testing"

	"patina/api"
)

// P19.6: ErrPower of the core's own call, or of Tend.

// deedsOfAny are calls of a device, by which it is seen that the power is off.
func deedsOfAny() map[string]func(d *disk) error {
	return map[string]func(d *disk) error{
		"Read":                  func(d *disk) error { return d.read(3) },
		"Read of what is empty": func(d *disk) error { return d.read(20) },
		"Write":                 func(d *disk) error { return d.write(3, text(3, 77)) },
		"Trim":                  func(d *disk) error { return d.trim(3) },
		"Trim of what is empty": func(d *disk) error { return d.trim(20) },
	}
}

// nine is a disk of which nine sectors are written.
func nine(t *testing.T) *disk {
	t.Helper()
	d := newDisk(t)
	for of := range 9 {
		d.must(d.write(of, text(of, of)))
	}
	return d
}

// The power is off: each call answers ErrPower, also those for which the core's own call reads nothing, and none is mounted any more.
func TestCallsWithoutPower(t *testing.T) {
	for name, do := range deedsOfAny() {
		d := nine(t)
		off(t, d.chip)
		was := d.chip.Clone()
		if err := do(d); err != api.ErrPower {
			t.Fatalf("%s: %v", name, err)
		}
		wantNotMounted(t, d.dev)
		if err := d.dev.Mount(); err != api.ErrPower {
			t.Errorf("Mount(): %v", err)
		}
		wantSameChip(t, was, d.chip)
		d.settle()
		d.mustMount()
		d.wantAll()
	}
}

// The power comes again behind ErrPower: it isn't mounted by that.
func TestPowerDoesntMount(t *testing.T) {
	for name, do := range deedsOfAny() {
		d := nine(t)
		off(t, d.chip)
		if err := do(d); err != api.ErrPower {
			t.Fatalf("%s: %v", name, err)
		}
		d.chip.Power()
		wantNotMounted(t, d.dev)
		d.mustMount()
		d.wantAll()
	}
}

// wantCutInTend does a call of which Tend programs a checkpoint, which is cut: ErrPower, and no bytes, though the core's own call was done.
func wantCutInTend(t *testing.T, steps int, do func(d *disk) error) *disk {
	t.Helper()
	d := nine(t)
	for d.view().Calls != 7 {
		d.must(d.read(20))
	}
	d.chip.Cut(steps)
	if err := do(d); err != api.ErrPower {
		t.Fatalf("behind %d steps: %v", steps, err)
	}
	wantNotMounted(t, d.dev)
	d.chip.Power()
	return d
}

func TestPowerThatGoesInTend(t *testing.T) {
	for steps := range 4 {
		d := wantCutInTend(t, steps, func(d *disk) error { return d.read(3) })
		d.mustMount()
		d.wantAll()
		d = wantCutInTend(t, steps, func(d *disk) error { return d.trim(20) })
		d.mustMount()
		d.wantAll()
		// The write was done ahead of it, and stays.
		d = wantCutInTend(t, 4+steps, func(d *disk) error { return d.write(3, text(3, 99)) })
		d.may[3] = []string{string(text(3, 99))}
		d.mustMount()
		d.wantAll()
	}
	// Behind the last step of the checkpoint nothing is cut any more.
	d := nine(t)
	for d.view().Calls != 7 {
		d.must(d.read(20))
	}
	d.chip.Cut(4)
	d.must(d.read(3))
	if v := d.view(); v.Calls != 0 {
		t.Errorf("Report(): %+v", v)
	}
	if err := d.write(3, text(3, 1)); err != api.ErrPower {
		t.Errorf("Write(3): %v", err)
	}
}

// A call without a step isn't cut by a budget of none.
func TestReadsNeedNoSteps(t *testing.T) {
	d := nine(t)
	d.must(d.trim(8)) // its checkpoint puts the next one off
	d.chip.Cut(0)
	for of := range 6 {
		d.must(d.read(of))
	}
	if err := d.write(3, text(3, 1)); err != api.ErrPower {
		t.Errorf("Write(3): %v", err)
	}
}

// A device is mounted again behind each cut, over and over.
func TestTheSameDeviceOverAndOver(t *testing.T) {
	d := nine(t)
	for turn := range 40 {
		of := turn * 7 % 24
		d.chip.Cut(turn % 9)
		d.write(of, text(of, turn))
		d.settle()
		if !d.mounted {
			d.mustMount()
		}
		d.chip.Power()
		d.must(d.read(of))
	}
	d.wantAll()
}
