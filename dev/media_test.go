package dev_test

import (
	"testing"

	"patina/api"
)

// T2: a sector of which three or four bytes of a codeword of data turned answers its bytes or ErrMedia, never other bytes, and the others are as they were.

// full is a chip on which all sectors lie.
func full(t *testing.T) *disk {
	t.Helper()
	d := newDisk(t)
	d.fill(0)
	return d
}

// wantOthers reads all sectors but one.
func (d *disk) wantOthers(lost int) {
	d.Helper()
	for of := range 24 {
		if of != lost {
			d.must(d.read(of))
		}
	}
}

// wantLost reads a sector that is lost.
func (d *disk) wantLost(of int) {
	d.Helper()
	if err := d.read(of); err != api.ErrMedia {
		d.Fatalf("Read(%d): %v", of, err)
	}
}

// It is lost for good, whatever is done with the others, and behind each mount, until it is written, or trimmed.
func TestALostSector(t *testing.T) {
	t.Parallel()
	chip := full(t).chip
	for many := 3; many <= 4; many++ {
		for chunk := range 3 {
			for _, trimmed := range []bool{false, true} {
				d := mounted(t, chip.Clone())
				of := 5*chunk + many
				place := d.sight.live[of]
				d.hurt(place, chunk, many)
				d.wantLost(of)
				if tag, _ := tagAt(d.chip, d.sight.live[of]); d.sight.live[of] == place || !tag.Lost {
					t.Fatalf("it lies at %d, and did at %d: %+v", d.sight.live[of], place, tag)
				}
				d.wantOthers(of)
				d.wantLost(of)
				d.again()
				d.wantLost(of)
				if trimmed {
					d.must(d.trim(of))
				} else {
					d.must(d.write(of, text(of, 99)))
				}
				d.wantSound()
			}
		}
	}
}

// It is the patrol that finds it, not a read: from then on it is lost.
func TestALostSectorThatThePatrolFinds(t *testing.T) {
	t.Parallel()
	chip := full(t).chip
	for many := 3; many <= 4; many++ {
		for of := many; of < 24; of += 5 {
			d := mounted(t, chip.Clone())
			place := d.sight.live[of]
			d.hurt(place, of%3, many)
			for range 12 {
				d.must(d.read((of + 1) % 24))
			}
			if d.sight.live[of] == place {
				t.Fatalf("the sector %d lies at %d still", of, place)
			}
			d.hurt(place, of%3, many)
			d.wantLost(of)
			d.wantOthers(of)
			d.must(d.write(of, text(of, 98)))
			d.wantSound()
		}
	}
}

// Turned back ahead of a read its bytes are there again.
func TestBitsThatAreTurnedBack(t *testing.T) {
	d := full(t)
	for of := range 24 {
		place, chunk := d.sight.live[of], of%3
		d.hurt(place, chunk, 4)
		d.hurt(place, chunk, 4)
		if !d.weak[of] {
			t.Fatal("nothing was turned")
		}
		d.must(d.read(of))
		if d.sight.live[of] != place {
			t.Errorf("the sector %d was moved", of)
		}
	}
	d.wantSound()
}

// The call that finds it is cut at each of its steps: it answers its bytes, once they are turned back, or ErrMedia; if it is lost, it stays so.
func TestALostSectorInACallThatIsCut(t *testing.T) {
	t.Parallel()
	chip := full(t).chip
	lost, kept := 0, 0
	for budget := 0; ; budget++ {
		d := mounted(t, chip.Clone())
		place := d.sight.live[9]
		d.hurt(place, 1, 3)
		d.chip.Cut(budget)
		if err := d.read(9); err == api.ErrMedia {
			break
		}
		d.mustMount()
		if d.sight.live[9] == place {
			d.hurt(place, 1, 3)
			kept++
			d.must(d.read(9))
		} else {
			lost++
			d.wantLost(9)
			d.again()
			d.wantLost(9)
		}
		d.wantOthers(9)
		d.must(d.write(9, text(9, 9)))
		d.wantSound()
	}
	if kept < 20 {
		t.Errorf("%d cuts ahead of the commit, %d behind it", kept, lost)
	}
}

// Several sectors of one block, and of several; with blocks that fail.
func TestManyLostSectors(t *testing.T) {
	t.Parallel()
	chip := full(t).chip
	for turn := range 6 {
		d := mounted(t, chip.Clone())
		for of := turn; of < 24; of += 1 + turn {
			d.hurt(d.sight.live[of], of%3, 3+of%2)
		}
		if turn%2 == 1 {
			d.must(d.chip.FailErase(turn))
			d.must(d.chip.FailProgram(6, 4*turn))
		}
		for of := range 24 {
			if d.weak[of] {
				d.wantLost(of)
			} else {
				d.must(d.read(of))
			}
		}
		d.again()
		for of := range 24 {
			if d.weak[of] {
				d.wantLost(of)
				d.must(d.write(of, text(of, 50)))
			}
		}
		d.wantSound()
	}
}

// A write into a chip that is worn out, of a sector that is lost: it stays lost.
func TestALostSectorOfAWornChip(t *testing.T) {
	d := full(t)
	for block := range 12 {
		d.must(d.chip.FailProgram(block, 0))
		d.must(d.chip.FailErase(block))
	}
	d.hurt(d.sight.live[9], 2, 4)
	d.wantLost(9)
	if err := d.write(9, text(9, 1)); err != api.ErrWornOut {
		t.Errorf("Write(9): %v", err)
	}
	d.wantLost(9)
	d.wantOthers(9)
}

// Long runs in which sectors are lost, with all other harm.
func TestRunsWithLostSectors(t *testing.T) {
	t.Parallel()
	lost := 0
	for start := range 12 {
		s := source(600 + start)
		d := newDisk(t)
		for range 4 {
			d.run(&s, harms{fail: start % 2, bits: 3 + start%6, data: 4, cuts: start % 3 * 4}, 40)
			for of := range 24 {
				if err := d.read(of); err == api.ErrMedia {
					lost++
				}
			}
		}
		for of := range 24 {
			d.write(of, text(of, 999))
		}
		for of := range 24 {
			if err := d.read(of); err != nil && !d.worn {
				t.Fatalf("Read(%d): %v", of, err)
			}
		}
	}
	if lost < 20 {
		t.Errorf("only %d reads of lost sectors", lost)
	}
}
