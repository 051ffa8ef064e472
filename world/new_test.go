package world_test

import (
	"testing"

	"patina/api"
	"patina/nand"
	"patina/world"
)

// P22.1.

func TestNew(t *testing.T) {
	w := world.New()
	if !sameChip(w.Chip(), nand.New()) {
		t.Error("the chip isn't new")
	}
	if l := w.Look(); l != (api.Look{On: true}) {
		t.Errorf("Look: %+v", l)
	}
	if v, err := w.View(); v != (api.View{}) || err != api.ErrNotMounted {
		t.Errorf("View(): %+v, %v", v, err)
	}
	for _, kind := range []int{1, 2, 3, 5} {
		if r := w.Do(step(kind)); r.Code != api.ErrNotMounted || r.Data != nil {
			t.Errorf("the kind %d: %v", kind, r)
		}
	}
	if !sameChip(w.Chip(), nand.New()) {
		t.Error("the chip isn't new any more")
	}
}

// Each world has a chip of its own, and it is the same one from the beginning on.
func TestTheChip(t *testing.T) {
	w, other := world.New(), world.New()
	chip := w.Chip()
	if chip == nil || chip == other.Chip() {
		t.Fatal("two worlds have one chip")
	}
	for _, s := range []api.Step{step(4), step(2, 3, 3), step(9, 1), step(2, 3, 4), step(10), step(4), step(11)} {
		steps := chip.Steps()
		w.Do(s)
		if w.Chip() != chip {
			t.Fatal("it is another chip")
		}
		if s.Kind == 2 && chip.Steps() == steps {
			t.Fatal("the device is over another chip")
		}
	}
	if !sameChip(other.Chip(), nand.New()) {
		t.Error("the other world's chip was changed")
	}
}

// What others do to the chip is done to the device's own: bits turn, blocks fail, the power goes.
func TestWhatOthersDoToTheChip(t *testing.T) {
	w := world.New()
	w.Run([]api.Step{step(4), step(2, 3, 3)})
	v, _ := w.View()
	for i := range 3 {
		w.Chip().Flip(v.Live[3], 64*i)
	}
	if r := w.Do(step(1, 3)); r.Code != api.ErrMedia {
		t.Errorf("read 3: %v", r)
	}
	for block := range 12 {
		w.Chip().FailProgram(block, 0)
	}
	if r := w.Do(step(2, 3, 4)); r.Code != api.ErrWornOut {
		t.Errorf("write 3 4: %v", r)
	}
	w.Chip().Cut(0)
	w.Chip().Erase(0)
	if r := w.Do(step(1, 3)); r.Code != api.ErrPower {
		t.Errorf("read 3: %v", r)
	}
}

// everyKind is a step of each kind, and of none, that changes nothing of what is seen.
func everyKind() []api.Step {
	return []api.Step{
		step(1, 23), step(2, 23, 9), step(3, 23), step(4), step(5), step(6, 40, 8), step(7, 11, 1000), step(8, 11), step(9, 1000), step(10),
		step(1, -1), step(2, 24), step(3, 99), step(6, 96), step(7, 12), step(8, -1), step(9, -1), step(0), step(11), step(-1),
	}
}

// What is done to the chip by others is seen behind the next step, whatever that is, and no earlier.
func TestWhatOthersDoIsSeenBehindTheNextStep(t *testing.T) {
	harms := []struct {
		name string
		do   func(chip *nand.Chip)
		seen func(l api.Look) bool
	}{
		{"the checkpoint", func(chip *nand.Chip) { turn(chip, 0, 1, 3) }, func(l api.Look) bool { return l.Broken }},
		{"a tag", func(chip *nand.Chip) { turn(chip, 1, 3, 3) }, func(l api.Look) bool { return l.Broken }},
		{"an erased page", func(chip *nand.Chip) { turn(chip, 95, 3, 5) }, func(l api.Look) bool { return l.Broken }},
		{"data, weak", func(chip *nand.Chip) { turn(chip, 1, 0, 4) }, func(l api.Look) bool { return l.Marks[3] == api.Weak }},
		{"data, gone", func(chip *nand.Chip) { turn(chip, 1, 0, 5) }, func(l api.Look) bool { return l.Marks[3] == api.Gone }},
		{"three blocks", failThree, func(l api.Look) bool { return l.Worn }},
	}
	for _, h := range harms {
		for _, s := range everyKind() {
			w := world.New()
			w.Run([]api.Step{step(4), step(2, 3, 3)})
			was := w.Look()
			h.do(w.Chip())
			for range 3 {
				w.View()
				w.Run(nil)
				if w.Look() != was {
					t.Fatalf("%s is seen at once", h.name)
				}
			}
			if s.Kind == 1 || s.Kind == 2 || s.Kind == 3 {
				// They go round, and what they move is as new.
				s.A = -1
			}
			if w.Do(s); !h.seen(w.Look()) {
				t.Errorf("%s isn't seen behind %v: %+v", h.name, s, w.Look())
			}
		}
	}
}

// turn turns a bit each of so many bytes of a page's chunk, beside the world's steps.
func turn(chip *nand.Chip, place, chunk, many int) {
	for i := range many {
		f := flipOf(place, chunk, i)
		chip.Flip(f.A, f.B)
	}
}

// failThree makes three blocks fail, each at an erase.
func failThree(chip *nand.Chip) {
	for block := 9; block < 12; block++ {
		chip.FailErase(block)
		chip.Erase(block)
	}
}

// The power is seen as it was behind the last step, too; and so is what others erased ahead of the next step.
func TestThePowerThatOthersTake(t *testing.T) {
	w := world.New()
	w.Run([]api.Step{step(4), step(2, 3, 3)})
	w.Chip().Cut(0)
	w.Chip().Erase(11)
	if l := w.Look(); l != (api.Look{On: true, Mounted: true}) {
		t.Errorf("Look: %+v", l)
	}
	w.Do(step(5))
	if l := w.Look(); l != (api.Look{Mounted: true}) {
		t.Errorf("Look behind a report: %+v", l)
	}
	w.Chip().Power()
	if l := w.Look(); l.On {
		t.Errorf("Look: %+v", l)
	}
	w.Do(step(11))
	if l := w.Look(); l != (api.Look{On: true, Mounted: true}) {
		t.Errorf("Look behind a step of no kind: %+v", l)
	}
	// Five bytes of an erased tag turn, and its block is erased: behind no step it was so.
	turn(w.Chip(), 88, 3, 5)
	w.Chip().Erase(11)
	w.Do(step(5))
	if l := w.Look(); l.Broken {
		t.Errorf("Look: %+v", l)
	}
	// A sector's data turn, and the next step writes it: behind no step its page had that.
	turn(w.Chip(), 1, 0, 7)
	if r := w.Do(step(2, 3, 4)); r.Code != 0 || w.Look() != (api.Look{On: true, Mounted: true}) {
		t.Errorf("write 3 4: %v, %+v", r, w.Look())
	}
}
