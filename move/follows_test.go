package move_test

import (
	"testing"

	"patina/api"
)

// P17.10, in long runs of all calls mixed.

// turn is a call of any kind, on both sides. Whatever fails on the way, it is done, or it answers ErrWornOut and its sector is as it was.
func (d *disk) turn(s *source, turn int) {
	d.Helper()
	of := s.below(24)
	wasBad, retire := count(d.view().States, api.Bad), false
	var err error
	switch kind := s.below(20); {
	case kind < 2:
		if err = d.core.Trim(of); err == nil {
			d.want[of], d.lost[of] = nil, false
		}
	case kind < 3:
		err = d.core.Note()
	case kind < 5:
		block := s.below(12)
		retire = s.below(20) == 0
		if err = d.core.Vacate(block, retire); err == api.ErrState {
			err = nil
		}
	case kind < 8:
		if err = d.core.Tend(); err != nil {
			d.Fatalf("Tend(): %v", err)
		}
	case kind < 10:
		d.wantGet(of)
	case kind < 11 && s.below(4) == 0:
		if err = d.core.Clean(); err != nil {
			d.Fatalf("Clean(): %v", err)
		}
	default:
		if err = d.core.Put(of, text(of, turn)); err == nil {
			d.want[of], d.lost[of] = text(of, turn), false
		}
	}
	if err != nil && (err != api.ErrWornOut || !d.isWorn() && !(retire && wasBad == 2)) {
		d.Fatalf("turn %d: %v", turn, err)
	}
	d.wantRest()
}

func TestTurnsWithoutFailures(t *testing.T) {
	t.Parallel()
	for start := range 12 {
		s := source(start)
		d := newDisk(t)
		for turn := range 800 {
			d.turn(&s, turn)
		}
		d.wantAll()
		if d.isWorn() {
			t.Fatal("it is worn out, and no block has failed")
		}
	}
}

// At first few failures, then more.
func TestTurnsWithFailures(t *testing.T) {
	t.Parallel()
	ends := [3]int{}
	for start := range 40 {
		s := source(start)
		d := newDisk(t)
		for turn := range 400 {
			if s.below(200) == 0 {
				d.chip.FailProgram(s.below(12), s.below(60))
			}
			if s.below(200) == 0 {
				d.chip.FailErase(s.below(12))
			}
			d.turn(&s, turn)
		}
		d.wantAll()
		ends[min(d.badOrFailed(), 3)/2]++
	}
	if ends[0] == 0 || ends[1] == 0 {
		t.Errorf("with up to one, and more bad blocks ended so many: %v", ends)
	}
}

// decay turns bits of chunks that bear them.
func (d *disk) decay(s *source) {
	for range s.below(9) {
		place, chunk := s.below(96), s.below(4)
		if _, worst, _ := d.chip.Damage(place, chunk); worst < 2 {
			d.chip.Flip(place, 512*chunk+s.below(512))
		}
	}
}

// A chip that decays, tended behind each call: nothing is lost, and what is read damaged is elsewhere behind the call.
func TestTurnsWithDecay(t *testing.T) {
	t.Parallel()
	reports := 0
	for start := range 6 {
		s := source(start)
		d := newDisk(t)
		for turn := range 500 {
			d.decay(&s)
			d.turn(&s, turn)
			was := d.view()
			d.tend()
			v := d.view()
			if v.Cursor != (was.Cursor+8)%96 {
				t.Fatalf("the cursor was %d, and is %d", was.Cursor, v.Cursor)
			}
			for _, place := range stepOf(was.Cursor) {
				d.wantNoDamage(v, place)
			}
		}
		d.wantAll()
		reports += d.view().Reports
		if d.isWorn() {
			t.Fatal("it is worn out, and no block has failed")
		}
	}
	if reports < 50 {
		t.Errorf("only %d reports", reports)
	}
}

// wantNoDamage holds a page that was read to bear less than two damaged bytes a chunk, if it counts.
func (d *disk) wantNoDamage(v api.View, place int) {
	d.Helper()
	for _, at := range v.Live {
		for chunk := range 4 {
			if damage, _, _ := d.chip.Damage(place, chunk); at == place && damage >= 2 {
				d.Fatalf("the page %d counts, and its chunk %d has the damage %d", place, chunk, damage)
			}
		}
	}
}

// A sector that is read over and over, tended behind each call: no block in which something counts is read much more than 512 times.
func TestReadsOverAndOver(t *testing.T) {
	t.Parallel()
	d := newDisk(t)
	d.fill(0)
	for range 2500 {
		d.wantGet(7)
		d.tend()
		v := d.view()
		for block, n := range livesOf(v) {
			// What is read back in the same call is not looked at any more.
			if n > 0 && v.Reads[block] > 512+8 {
				t.Fatalf("the block %d was read %d times: %+v", block, v.Reads[block], v)
			}
		}
	}
	d.wantAll()
	if v := d.view(); v.Reports < 4 || v.Scores != [12]int{} {
		t.Errorf("View(): %+v", v)
	}
}
