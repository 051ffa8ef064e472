package mount_test

import (
	"bytes"
	"testing"

	"patina/api"
	"patina/mount"
)

// P18.3, in long runs of all calls of a core.

// wantSameRead mounts a clone of the chip: it reads as the core, sector by sector, and each lies where it did, if no block fails.
func (d *disk) wantSameRead() {
	d.Helper()
	other, err := mount.Mount(d.chip.Clone())
	if other == nil || err != nil {
		d.Fatalf("Mount: %v, %v", other, err)
	}
	if got, want := other.View().Live, d.view().Live; !d.harmed && got != want {
		d.Fatalf("Live is %v, the core's %v", got, want)
	}
	for of := range 24 {
		got, err := other.Get(of)
		want, wrong := d.core.Get(of)
		if err != wrong || !bytes.Equal(got, want) || !bytes.Equal(got, d.bytesOf(of)) {
			d.Fatalf("Get(%d): %v, %v, the core tells %v, %v", of, got, err, want, wrong)
		}
	}
}

// run is a run of calls, with mounts beside the core and instead of it.
func (d *disk) run(s *source, turns int) {
	d.Helper()
	for turn := range turns {
		d.turn(s, turn)
		switch {
		case s.below(12) == 0:
			d.wantSameRead()
		case s.below(30) == 0 && !d.harmed:
			d.mount()
			d.wantAll()
		case s.below(30) == 0:
			d.mountAnyhow()
			d.wantAll()
			d.wantRest()
		}
	}
	d.wantSameRead()
}

func TestRunsWithoutFailures(t *testing.T) {
	t.Parallel()
	for start := range 5 {
		s := source(start)
		d := newDisk(t)
		d.run(&s, 250)
	}
}

// None, one and two blocks that fail, at writes and at erases, or are retired, at some time of the run.
func TestRunsWithFailures(t *testing.T) {
	t.Parallel()
	for start := range 12 {
		s := source(100 + start)
		d := newDisk(t)
		many := start % 3
		for range many {
			d.run(&s, 20+s.below(60))
			switch d.harmed = true; s.below(3) {
			case 0:
				d.chip.FailProgram(s.below(12), s.below(30))
			case 1:
				d.chip.FailErase(s.below(12))
			default:
				d.must(d.core.Vacate(frontier(d), true))
			}
		}
		d.run(&s, 100)
		if d.isWorn() && many == 0 {
			t.Fatal("it is worn out, and no block has failed")
		}
	}
}

// Every block is retired that may be: the third one isn't any more, and a mount knows so.
func TestMountBehindRetirements(t *testing.T) {
	d := newDisk(t)
	d.fill(0)
	for i, block := range []int{1, 3, 0} {
		err := d.core.Vacate(block, true)
		if want := []error{nil, nil, api.ErrWornOut}[i]; err != want {
			t.Fatalf("Vacate(%d, true): %v", block, err)
		}
		d.mount()
		d.wantAll()
		if bad := count(d.view().States, api.Bad); bad != min(i+1, 2) {
			t.Errorf("%d blocks are bad", bad)
		}
	}
	s := source(9)
	d.run(&s, 80)
}

// What was trimmed stays so behind any mounts, though its page may lie there still; what is put then counts.
func TestMountBehindTrims(t *testing.T) {
	d := newDisk(t)
	d.fill(0)
	for turn := range 30 {
		of := turn * 7 % 24
		d.trim(of)
		d.mount()
		d.wantAll()
		if turn%3 == 0 {
			d.put(of, 300+turn)
			d.mount()
			d.wantAll()
		}
	}
}

// A sector that was lost stays so, and the others are as they were.
func TestMountOfALostSector(t *testing.T) {
	d := newDisk(t)
	d.fill(0)
	hurt(d.chip, d.view().Live[9], 1, 3)
	wantLost := func() {
		t.Helper()
		if got, err := d.core.Get(9); got != nil || err != api.ErrMedia {
			t.Fatalf("Get(9): %v, %v", got, err)
		}
		for of := range 24 {
			if got, err := d.core.Get(of); of != 9 && (err != nil || !bytes.Equal(got, d.bytesOf(of))) {
				t.Fatalf("Get(%d): %v, %v", of, got, err)
			}
		}
	}
	wantLost()
	d.mount()
	wantLost()
	d.must(d.core.Tend()) // it was read, and is moved: it is told as lost from now on
	d.mount()
	wantLost()
	if tag, _ := tagAt(d.chip, d.view().Live[9]); !tag.Lost {
		t.Errorf("its tag is %+v", tag)
	}
	d.put(9, 400)
	d.mount()
	d.wantAll()
}

// The patrol goes on where the checkpoint tells, the reads and scores as it tells them.
func TestMountGoesOnFromTheCheckpoint(t *testing.T) {
	d := newDisk(t)
	d.fill(0)
	hurt(d.chip, 9, 1, 2)
	for range 5 {
		d.must(d.core.Tend())
	}
	d.must(d.core.Note())
	ahead := d.view()
	d.must(d.core.Tend())
	d.mount()
	v := d.view()
	if v.Cursor != ahead.Cursor || v.Cursor != 40 || v.Scores != ahead.Scores || v.Scores == [12]int{} {
		t.Errorf("View() is %+v, and was %+v", v, ahead)
	}
}

// decay turns bits of chunks that bear them: two bytes of what is programmed, four of what isn't.
func (d *disk) decay(s *source) {
	for range s.below(9) {
		place, chunk := s.below(96), s.below(4)
		bears := 4
		if _, is, _ := d.chip.Truth(place, chunk); is {
			bears = 2
		}
		if _, worst, _ := d.chip.Damage(place, chunk); worst < bears {
			d.chip.Flip(place, 512*chunk+s.below(512))
		}
	}
}

// Cuts, failures and decay in long runs: each time the chip is found as it was ahead of the call, or behind it.
func TestRunsWithCuts(t *testing.T) {
	t.Parallel()
	cuts := 0
	for start := range 14 {
		s := source(200 + start)
		d := newDisk(t)
		harms := start % 3
		for turn := range 120 {
			if harms > 0 && s.below(40) == 0 {
				harms--
				d.harmed = true
				harm{s.below(12), s.below(25) - 5}.doTo(d.chip)
			}
			d.decay(&s)
			if s.below(4) > 0 {
				d.turn(&s, turn)
				d.must(d.core.Tend())
				continue
			}
			cuts += d.cutTurn(&s, turn)
		}
		d.wantSameRead()
	}
	if cuts < 150 {
		t.Errorf("only %d cuts", cuts)
	}
}

// cutTurn is a turn that the power may cut, and mounts that it cuts; 1: it did.
func (d *disk) cutTurn(s *source, turn int) int {
	d.Helper()
	es := deeds()
	e := es[s.below(len(es))]
	if e.of >= 0 {
		e.of = s.below(24)
		e.do = func(d *disk) error { return d.core.Trim(e.of) }
		if e.behind != nil {
			e.behind = text(e.of, 1000+turn)
			e.do = func(d *disk) error { return d.core.Put(e.of, e.behind) }
		}
	}
	if !d.cutDeed(e, s.below(3+s.below(28))) {
		return 0
	}
	for s.below(3) == 0 {
		d.cutMount(s.below(16))
		d.wantTold()
	}
	d.chip.Power()
	d.mountAnyhow()
	d.wantAll()
	d.wantRest()
	return 1
}
