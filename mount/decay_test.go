package mount_test

import (
	"slices"
	"testing"

	"patina/api"
	"patina/nand"
)

// Bits that turn while the power is off.

// hurtAnyhow turns bits of so many bytes of a chunk, other ones each time.
func hurtAnyhow(chip *nand.Chip, s *source, place, chunk, many int) {
	at, step := s.below(64), 1+2*s.below(32)
	for i := range many {
		chip.Flip(place, 512*chunk+8*((at+i*step)%64)+s.below(8))
	}
}

// rot turns what each chunk bears: two bytes of each codeword that counts, four of each that is erased, and of the tag of each page that doesn't count; of the data of such a page any.
func rot(t *testing.T, chip *nand.Chip, s *source) {
	t.Helper()
	live := seen(t, chip).live
	for place := range 96 {
		counts := slices.Contains(live[:], place)
		for chunk := range 4 {
			_, is, _ := chip.Truth(place, chunk)
			switch {
			case counts:
				hurtAnyhow(chip, s, place, chunk, 2)
			case chunk == 3 || !is:
				hurtAnyhow(chip, s, place, chunk, 4)
			default:
				hurtAnyhow(chip, s, place, chunk, 1+s.below(12))
			}
		}
	}
	for place := range 96 {
		for chunk := range 4 {
			bears := 4
			if slices.Contains(live[:], place) {
				bears = 2
			}
			if _, worst, _ := chip.Damage(place, chunk); worst > bears && (bears == 2 || chunk == 3) {
				t.Fatalf("the chunk %d of the page %d has the damage %d", chunk, place, worst)
			}
		}
	}
}

// wantRotten mounts a chip all of whose chunks are damaged: it reads as before, and what counts lies where it did.
func wantRotten(d *disk) {
	d.Helper()
	want := viewOf(seen(d.T, d.chip))
	d.mountAnyhow()
	if v := d.view(); v != want {
		d.Fatalf("View() is %+v, want %+v", v, want)
	}
	d.wantAll()
	d.wantRest()
}

func TestBitsThatTurnWhileThePowerIsOff(t *testing.T) {
	t.Parallel()
	for i, g := range grounds() {
		for turn := range 2 {
			s := source(10*i + turn)
			d := g.make(t)
			if turn == 0 {
				d.chip.Cut(s.below(13))
				d.core.Vacate(fullest(d), s.below(2) == 0)
			}
			off(t, d.chip)
			rot(t, d.chip, &s)
			d.chip.Power()
			wantRotten(d)
			// The patrol finds all of it, and moves what counts.
			for range 12 {
				d.must(d.core.Tend())
			}
			for of, place := range d.view().Live {
				for chunk := 0; place >= 0 && chunk < 4; chunk++ {
					if damage, _, _ := d.chip.Damage(place, chunk); damage >= 2 {
						t.Fatalf("%s: the number %d, at %d, has the damage %d", g.name, of, place, damage)
					}
				}
			}
			d.wantAll()
			d.mount()
			d.wantAll()
		}
	}
}

// A new chip whose bits turned, too, is new.
func TestBitsOfANewChip(t *testing.T) {
	chip := nand.New()
	s := source(77)
	rot(t, chip, &s)
	d := over(t, chip)
	if d.view() != newView() {
		t.Errorf("View(): %+v", d.view())
	}
	d.put(3, 3)
	d.mount()
	d.wantAll()
}

// Over and over: each time the power is off two bytes turn of all that counts, and the mount behind it moves nothing: what was moved by then is what the calls moved.
func TestBitsThatTurnEachTime(t *testing.T) {
	t.Parallel()
	s := source(78)
	d := newDisk(t)
	d.fill(0)
	for turn := range 12 {
		off(t, d.chip)
		rot(t, d.chip, &s)
		d.chip.Power()
		wantRotten(d)
		if v := d.view(); v.Moves != 0 || v.Reports != 0 {
			t.Fatalf("View(): %+v", v)
		}
		for block, state := range d.view().States {
			if state == api.Full {
				d.must(d.core.Vacate(block, false))
			}
		}
		d.put(turn, 600+turn)
		d.wantAll()
	}
}
