package dev_test

import (
	"testing"

	"patina/api"
	"patina/nand"
)

// T1: in long runs of all calls the device answers as a plain array of sectors.

// harms is what a run does to its chip.
type harms struct {
	fail int // blocks that are to fail
	bits int // of a step so many bits turn at most
	data int // damaged bytes of a codeword of a sector's data, at most
	cuts int // one call in so many is cut; 0: none
}

// run is a run of so many steps.
func (d *disk) run(s *source, h harms, steps int) {
	d.Helper()
	for step := range steps {
		if h.fail > 0 && s.below(steps/4) == 0 {
			h.fail--
			d.failAnyhow(s)
		}
		if h.bits > 0 && s.below(3) == 0 {
			d.decay(s, 1+s.below(h.bits), h.data)
		}
		if h.cuts > 0 && s.below(h.cuts) == 0 {
			d.chip.Cut(s.below(1 + s.below(40)))
		}
		if !d.mounted {
			d.restart(s, h)
		}
		if d.mounted {
			d.turn(s, step)
		}
	}
	d.chip.Power()
	if !d.mounted {
		d.mustMount()
	}
}

// failAnyhow makes a block fail at some write or erase.
func (d *disk) failAnyhow(s *source) {
	if s.below(3) == 0 {
		d.must(d.chip.FailErase(s.below(12)))
		return
	}
	d.must(d.chip.FailProgram(s.below(12), s.below(32)))
}

// restart mounts the device, bits of whose chip turn while its power is off; it may go again on the way.
func (d *disk) restart(s *source, h harms) {
	d.Helper()
	if d.mount() {
		return
	}
	if h.bits > 0 {
		d.decay(s, s.below(4*h.bits), h.data)
	}
	d.chip.Power()
	if s.below(2) == 0 {
		d.chip.Cut(s.below(16))
	}
	if d.mount() && s.below(2) == 0 {
		d.chip.Power()
	}
}

// turn is a call of any kind.
func (d *disk) turn(s *source, turn int) {
	d.Helper()
	of := s.below(24)
	switch kind := s.below(10); {
	case kind < 4:
		d.read(of)
	case kind < 5:
		d.trim(of)
	default:
		d.write(of, text(of, turn))
	}
}

// wantSound holds a run to have kept all, and to be kept by another mount.
func (d *disk) wantSound() {
	d.Helper()
	d.wantAll()
	d.again()
	d.wantAll()
}

func TestRunsWithoutHarm(t *testing.T) {
	t.Parallel()
	for start := range 4 {
		s := source(start)
		d := newDisk(t)
		d.run(&s, harms{}, 300)
		if v := d.view(); v.Reports != 0 || v.Moved != 0 || v.Scores != [12]int{} || d.worn || count(v.States, api.Bad) > 0 {
			t.Errorf("Report(): %+v", v)
		}
		d.wantSound()
	}
}

// One and two blocks that fail, at any of their writes and erases: nothing is refused.
func TestRunsWithFailures(t *testing.T) {
	t.Parallel()
	failed := 0
	for start := range 16 {
		s := source(100 + start)
		d := newDisk(t)
		d.run(&s, harms{fail: 1 + start%2}, 150)
		if d.worn {
			t.Fatal("it is worn out")
		}
		d.wantSound()
		failed += count(d.view().States, api.Bad)
	}
	if failed < 12 {
		t.Errorf("only %d blocks failed", failed)
	}
}

// play is the same calls each time, which go through all blocks.
func (d *disk) play() {
	d.Helper()
	for turn := range 56 {
		of := turn * 7 % 24
		switch {
		case turn%9 == 8:
			d.must(d.trim(of))
		case turn%7 == 6:
			d.must(d.read(of))
		default:
			d.must(d.write(of, text(of, turn)))
		}
	}
}

// oneFailureIn: of the failures of one block one in so many is tried. All of them take too long for each run.
const oneFailureIn = 5

// A block fails at each of its writes in turn, or at its first erase.
func TestEachFailure(t *testing.T) {
	t.Parallel()
	for block := range 12 {
		for after := block % oneFailureIn; after < 33; after += oneFailureIn {
			d := newDisk(t)
			if after < 32 {
				d.must(d.chip.FailProgram(block, after))
			} else {
				d.must(d.chip.FailErase(block))
			}
			d.play()
			d.wantAll()
			if d.worn {
				t.Fatal("it is worn out")
			}
			if is, _ := d.chip.Failed(block); is && d.view().States[block] != api.Bad {
				t.Errorf("the block %d failed behind %d writes, and isn't bad: %v", block, after, d.view().States)
			}
		}
	}
}

// Two blocks fail, close to each other, or both at once.
func TestTwoFailures(t *testing.T) {
	t.Parallel()
	bad := 0
	for first := range 12 {
		for _, on := range []int{1, 2, 5} {
			second := (first + on) % 12
			d := newDisk(t)
			d.must(d.chip.FailProgram(first, 3*first%32))
			d.must(d.chip.FailProgram(second, 7*on%25))
			d.play()
			d.wantAll()
			if d.worn {
				t.Fatal("it is worn out")
			}
			bad += count(d.view().States, api.Bad)
		}
	}
	if bad < 40 {
		t.Errorf("only %d blocks were bad", bad)
	}
}

// More than two blocks fail: a write or a trim answers nil, or ErrWornOut, and then nothing has changed; reads go on, and so behind each mount.
func TestRunsThatWearOut(t *testing.T) {
	t.Parallel()
	refused := 0
	for start := range 8 {
		s := source(200 + start)
		d := newDisk(t)
		d.fill(0)
		for round := range 5 {
			for range round {
				d.failAnyhow(&s)
			}
			d.run(&s, harms{fail: round}, 40)
			if err := d.write(3, text(3, 500+round)); err == api.ErrWornOut {
				refused++
				was := d.chip.Clone()
				if err := d.write(3, text(3, 600+round)); err != api.ErrWornOut || d.chip.Steps() != was.Steps() {
					t.Fatalf("Write(3): %v", err)
				}
			}
			d.wantSound()
		}
		if !d.worn {
			t.Error("it isn't worn out")
		}
	}
	if refused < 10 {
		t.Errorf("only %d writes were refused", refused)
	}
}

// All blocks fail from now on: everything is read as it was, for good.
func TestEveryBlockFails(t *testing.T) {
	d := newDisk(t)
	d.fill(0)
	for block := range 12 {
		d.must(d.chip.FailProgram(block, 0))
		d.must(d.chip.FailErase(block))
	}
	for turn := range 30 {
		of := turn * 7 % 24
		if err := d.write(of, text(of, 90+turn)); err != api.ErrWornOut {
			t.Fatalf("Write(%d): %v", of, err)
		}
		if err := d.trim(of); err != api.ErrWornOut {
			t.Fatalf("Trim(%d): %v", of, err)
		}
		d.must(d.read(of))
		if turn%10 == 9 {
			d.again()
		}
	}
	d.wantAll()
}

// A chip all of whose blocks fail ahead of its first mount: it is mounted, empty, and nothing can be written.
func TestAChipThatFailsFromTheBeginning(t *testing.T) {
	chip := nand.New()
	for block := range 12 {
		chip.FailProgram(block, 0)
	}
	d := mounted(t, chip)
	if err := d.write(3, text(3, 3)); err != api.ErrWornOut {
		t.Errorf("Write(3): %v", err)
	}
	d.must(d.trim(3))
	d.wantSound()
}

// Bits turn at any moment, as many as are borne: nothing is lost.
func TestRunsWithDecay(t *testing.T) {
	t.Parallel()
	moved := 0
	for start := range 8 {
		s := source(300 + start)
		d := newDisk(t)
		d.run(&s, harms{bits: 1 + start, data: 2, fail: start % 2}, 150)
		d.wantAll()
		moved += d.view().Reports
	}
	if moved < 20 {
		t.Errorf("only %d blocks were moved", moved)
	}
}

// rot turns all that is borne: two bytes of each codeword that counts, four of each other tag, and any of other data.
func (d *disk) rot(s *source) {
	d.Helper()
	for place := range 96 {
		for chunk := range 4 {
			at, step := s.below(64), 1+2*s.below(32)
			for i := range min(d.bears(place, chunk, 2), 1+s.below(12)+3) {
				if worstOf(d.chip, place, chunk, chunk) < d.bears(place, chunk, 2) {
					d.flip(place, 512*chunk+8*((at+i*step)%64)+s.below(8))
				}
			}
		}
	}
	d.look()
	for _, place := range d.sight.live {
		if place >= 0 && worstOf(d.chip, place, 0, 3) != 2 {
			d.Fatalf("the page %d has the damage %d", place, worstOf(d.chip, place, 0, 3))
		}
	}
}

// Everything rots at once, with the power on or off; twelve calls later nothing that counts is damaged.
func TestEverythingRots(t *testing.T) {
	t.Parallel()
	for start := range 6 {
		s := source(400 + start)
		d := newDisk(t)
		d.run(&s, harms{}, 80)
		if start%2 == 0 {
			off(t, d.chip)
			d.rot(&s)
			if err := d.read(0); err != api.ErrPower {
				t.Fatalf("Read(0): %v", err)
			}
			d.mustMount()
		} else {
			d.rot(&s)
		}
		for range 12 {
			d.turn(&s, 700)
		}
		for of, place := range d.sight.live {
			if place >= 0 && damageOf(d.chip, place) >= 2 {
				t.Fatalf("the number %d, at %d, is damaged", of, place)
			}
		}
		d.wantSound()
	}
}

// All harm together, within what is borne, with cuts and mounts.
func TestRunsWithAllHarm(t *testing.T) {
	t.Parallel()
	cuts := 0
	for start := range 24 {
		s := source(500 + start)
		d := newDisk(t)
		d.run(&s, harms{fail: start % 4, bits: start % 5, data: 2, cuts: 3 + start%6}, 120)
		d.wantSound()
		cuts += d.cuts
	}
	if cuts < 150 {
		t.Errorf("only %d cuts", cuts)
	}
}
