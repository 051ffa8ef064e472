package move_test

import (
	"bytes"
	"testing"

	"patina/api"
)

// The power that is off, or goes at any step: ErrPower. What is in memory then is what lies on the chip; and another core finds all as it was ahead of the call, or behind it.

func TestCallsWithoutPower(t *testing.T) {
	for _, g := range grounds() {
		for _, e := range deeds() {
			d := set(t, g, e)
			d.chip.Cut(0)
			d.chip.Erase(0)
			if d.chip.On() {
				t.Fatal("the power is on")
			}
			live, steps := d.view().Live, d.chip.Steps()
			if err := e.done(d); err != api.ErrPower && !(err == api.ErrWornOut && count(d.view().States, api.Bad) == 2) {
				t.Fatalf("%s, %s: %v", g.name, e.name, err)
			}
			if v := d.view(); v.Live != live || d.chip.Steps() != steps {
				t.Fatalf("%s, %s: %+v", g.name, e.name, v)
			}
		}
		d := g.make(t)
		d.chip.Cut(0)
		d.chip.Erase(0)
		if got, err := d.core.Get(3); got != nil || err != api.ErrPower {
			t.Errorf("Get(3): %v, %v", got, err)
		}
	}
}

// What doesn't meet the chip is answered without power as with it.
func TestCallsThatDontMeetTheChip(t *testing.T) {
	d := newDisk(t)
	d.put(1, 1)
	d.chip.Cut(0)
	d.chip.Erase(0)
	d.wantQuiet(func() {
		if got, err := d.core.Get(2); err != nil || !bytes.Equal(got, make([]byte, 160)) {
			t.Errorf("Get(2): %v, %v", got, err)
		}
		if err := d.core.Trim(2); err != nil {
			t.Errorf("Trim(2): %v", err)
		}
		if _, err := d.core.Get(24); err != api.ErrArg {
			t.Errorf("Get(24): %v", err)
		}
		if d.core.Put(24, text(0, 0)) != api.ErrArg || d.core.Put(0, nil) != api.ErrArg || d.core.Trim(-1) != api.ErrArg {
			t.Error("what may not be isn't ErrArg")
		}
		if d.core.Vacate(12, false) != api.ErrArg || d.core.Vacate(7, false) != api.ErrState || d.core.Seen(nil) != api.ErrArg {
			t.Error("what may not be isn't refused")
		}
	})
}

// Each deed on each ground, cut at each of its steps.
func TestCutAtEachStep(t *testing.T) {
	t.Parallel()
	for _, g := range grounds() {
		t.Run(g.name, func(t *testing.T) {
			t.Parallel()
			for _, e := range deeds() {
				d := set(t, g, e)
				steps := d.chip.Steps()
				if err := e.done(d); err != nil && err != api.ErrWornOut {
					t.Fatalf("%s: %v", e.name, err)
				}
				for budget := range d.chip.Steps() - steps + 1 {
					wantCut(set(t, g, e), e, budget)
				}
			}
		})
	}
}

// wantCut does a deed that the power cuts behind so many steps, and finds the chip again; the finding is cut, too, at some of its steps.
func wantCut(d *disk, e deed, budget int) {
	d.Helper()
	var before []byte
	if e.of >= 0 {
		before = d.want[e.of]
	}
	ahead := d.view()
	d.chip.Cut(budget)
	err := e.done(d)
	if d.chip.On() {
		// It was done within the budget.
		if err != nil && !(err == api.ErrWornOut && count(ahead.States, api.Bad) == 2) {
			d.Fatalf("%s behind %d steps: %v", e.name, budget, err)
		}
		d.chip.Power()
		d.wantRest()
		return
	}
	if err != api.ErrPower {
		d.Fatalf("%s behind %d steps: %v", e.name, budget, err)
	}
	if v, g := d.view(), seen(d.T, d.chip); v.Live != g.live {
		d.Fatalf("%s behind %d steps: Live is %v, the chip tells %v", e.name, budget, v.Live, g.live)
	}
	for cut := budget % 7; cut > 0; cut-- {
		d.chip.Power()
		d.chip.Cut(cut)
		d.again()
	}
	d.chip.Power()
	if !d.again() {
		d.Fatal("the power went")
	}
	if e.of >= 0 {
		d.wantEither(e.of, before, e.behind)
	}
	d.wantRest()
	d.wantAll()
	d.quick(11, 900)
	d.wantRest()
	d.wantAll()
}

// wantEither reads a sector that has one of two contents, and keeps which.
func (d *disk) wantEither(of int, before, behind []byte) {
	d.Helper()
	got, err := d.core.Get(of)
	if err != nil {
		d.Fatalf("Get(%d): %v", of, err)
	}
	d.want[of] = before
	if !bytes.Equal(got, d.bytesOf(of)) {
		d.want[of] = behind
	}
	if !bytes.Equal(got, d.bytesOf(of)) {
		d.Fatalf("Get(%d): %v, neither %v nor %v", of, got, before, behind)
	}
}

// The examples of the document: behind the third chunk of a put the sector is as before, behind the fourth as it was put.
func TestCutOfAPut(t *testing.T) {
	for budget := range 5 {
		d := newDisk(t)
		d.put(3, 1)
		d.chip.Cut(budget)
		err := d.core.Put(3, text(3, 2))
		if budget < 4 && err != api.ErrPower || budget == 4 && err != nil {
			t.Fatalf("Put(3) behind %d steps: %v", budget, err)
		}
		if err == nil {
			d.want[3] = text(3, 2)
		}
		d.chip.Power()
		if !d.again() {
			t.Fatal("the power went")
		}
		d.wantRest()
		d.wantAll()
	}
}

// Cuts, failures and decay in long runs: each time the chip is found again as it was ahead of the call, or behind it.
func TestTurnsWithCuts(t *testing.T) {
	t.Parallel()
	cuts := 0
	for start := range 40 {
		s := source(start)
		d := newDisk(t)
		for turn := range 200 {
			if s.below(250) == 0 {
				d.chip.FailProgram(s.below(12), s.below(40))
			}
			if s.below(250) == 0 {
				d.chip.FailErase(s.below(12))
			}
			d.decay(&s)
			if s.below(3) > 0 || d.isWorn() {
				d.turn(&s, turn)
				d.tend()
				continue
			}
			cuts += d.cutTurn(&s, turn)
		}
		d.wantAll()
	}
	if cuts < 250 {
		t.Errorf("only %d cuts", cuts)
	}
}

// cutTurn is a turn that the power may cut; 1: it did.
func (d *disk) cutTurn(s *source, turn int) int {
	d.Helper()
	of := s.below(24)
	before, behind := d.want[of], d.want[of]
	d.chip.Cut(s.below(3 + s.below(28)))
	var err error
	switch s.below(6) {
	case 0:
		behind = nil
		err = d.core.Trim(of)
	case 1:
		err = d.core.Note()
	case 2:
		err = d.core.Vacate(s.below(12), s.below(10) == 0)
	case 3:
		err = d.core.Tend()
	case 4:
		err = d.core.Clean()
	default:
		behind = text(of, turn)
		err = d.core.Put(of, behind)
	}
	if err == nil {
		d.want[of] = behind
	}
	if d.chip.On() {
		d.chip.Power()
		d.wantRest()
		return 0
	}
	if err != api.ErrPower {
		d.Fatalf("turn %d: %v", turn, err)
	}
	for s.below(3) == 0 {
		d.chip.Power()
		d.chip.Cut(s.below(16))
		d.again()
	}
	d.chip.Power()
	if !d.again() {
		d.Fatal("the power went")
	}
	d.wantEither(of, before, behind)
	d.wantRest()
	return 1
}
