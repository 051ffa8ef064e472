package mount_test

import (
	"bytes"
	"testing"

	"patina/api"
	"patina/nand"
)

// P18.3: cuts behind each number of steps of each call, and of the mounts that follow.

// cutDeed does a deed that the power cuts behind so many steps. From then on the sector is what the chip tells: as ahead of the deed, or as behind it. False: the deed was done within its steps.
func (d *disk) cutDeed(e deed, budget int) bool {
	d.Helper()
	wasBad := count(d.view().States, api.Bad)
	d.chip.Cut(budget)
	err := e.do(d)
	went := !d.chip.On()
	d.chip.Power()
	if went && err != api.ErrPower {
		d.Fatalf("%s behind %d steps: %v", e.name, budget, err)
	}
	if !went && err != nil && !(err == api.ErrWornOut && (wasBad == 2 || d.isWorn())) {
		d.Fatalf("%s behind %d steps: %v", e.name, budget, err)
	}
	if e.of < 0 {
		return went
	}
	ahead := d.want[e.of]
	if err == nil {
		d.want[e.of] = e.behind
	}
	if !went {
		return false
	}
	if now := d.told(seen(d.T, d.chip).live, e.of); !bytes.Equal(now, d.bytesOf(e.of)) {
		d.want[e.of] = e.behind
		if !bytes.Equal(now, d.bytesOf(e.of)) {
			d.Fatalf("%s behind %d steps: the sector %d has %v, neither %v nor %v", e.name, budget, e.of, now, ahead, e.behind)
		}
	}
	return went
}

// wantFound mounts the chip at last, and holds it to be the array that it was, at once and behind calls and mounts more.
func (d *disk) wantFound() {
	d.Helper()
	d.mountAnyhow()
	d.wantAll()
	d.wantRest()
	if !d.isWorn() {
		d.put(11, 900)
	}
	d.mountAnyhow()
	d.wantAll()
	d.wantRest()
}

// Each deed on each ground, cut at each of its steps, and some of the mounts behind it at some of theirs.
func TestCutsOfEachCall(t *testing.T) {
	t.Parallel()
	for _, g := range grounds() {
		t.Run(g.name, func(t *testing.T) {
			t.Parallel()
			cuts := 0
			for i, e := range deeds() {
				for budget := 0; ; budget++ {
					d := set(t, g, e)
					went := d.cutDeed(e, budget)
					d.wantTold()
					if (i+budget)%3 == 0 && d.cutMount(budget%8) {
						d.wantTold()
						d.chip.Power()
						cuts++
					}
					d.mount()
					d.wantAll()
					if !went {
						break
					}
					cuts++
				}
			}
			if cuts < 100 {
				t.Errorf("only %d cuts", cuts)
			}
		})
	}
}

// oneChainIn: of these chains one in so many is tried. All of them take too long for each run.
const oneChainIn = 5

// Behind a deed that was cut a mount is cut behind no step, the next one behind one, and so on, until one is done.
func TestMountsThatAreCutOneAfterTheOther(t *testing.T) {
	t.Parallel()
	for i, g := range grounds() {
		t.Run(g.name, func(t *testing.T) {
			t.Parallel()
			tries := 0
			for j, e := range deeds() {
				for budget := (i + 3*j) % oneChainIn; ; budget += oneChainIn {
					d := set(t, g, e)
					if !d.cutDeed(e, budget) {
						break
					}
					d.chain()
					d.wantFound()
					tries++
				}
			}
			if tries < 15 {
				t.Errorf("only %d chains", tries)
			}
		})
	}
}

// chain cuts mounts at each of their steps, one after the other.
func (d *disk) chain() {
	d.Helper()
	steps := 0
	for d.cutMount(steps) {
		d.wantTold()
		steps++
	}
	if steps < boundOf(count(d.view().States, api.Bad)) {
		d.Fatalf("a mount of %d steps", steps)
	}
	d.wantRest()
	d.wantAll()
}

// The same mount cut at the same step, over and over: it goes no further, and nothing is worn by it.
func TestTheSameCutOverAndOver(t *testing.T) {
	t.Parallel()
	for steps := range 6 {
		d := started(t).brimming()
		d.chip.Cut(5)
		if err := d.core.Vacate(fullest(d), false); err != api.ErrPower {
			t.Fatalf("Vacate: %v", err)
		}
		for turn := range 20 {
			if cut := d.cutMount(steps); cut != (steps < 5) {
				t.Fatalf("turn %d: a mount of five erases, cut behind %d steps: %v", turn, steps, cut)
			}
			d.wantTold()
		}
		d.chip.Power()
		d.mount()
		d.wantAll()
		if failedOf(d.chip) != [12]bool{} || count(d.view().States, api.Bad) > 0 {
			t.Error("a block is bad")
		}
	}
}

// The whole example of the document: a move that is cut off behind its third page; the mount erases the copies.
func TestAMoveThatIsCutOffIsNothing(t *testing.T) {
	d := newDisk(t)
	d.fill(0)
	ahead := d.view()
	d.chip.Cut(12)
	if err := d.core.Vacate(1, false); err != api.ErrPower {
		t.Fatalf("Vacate: %v", err)
	}
	d.chip.Power()
	if d.taken(5) != 3 {
		t.Fatalf("%d pages were copied", d.taken(5))
	}
	d.mount()
	d.wantAll()
	v := d.view()
	if !isErased(d.chip, 5) || v.Live != ahead.Live || v.States != [12]int{api.Full, api.Full, api.Full, api.Full, api.Full} {
		t.Errorf("View(): %+v", v)
	}
}

// A cut of each kind of program of a new chip's first mount: it is new again, or has its checkpoint.
func TestCutsOfTheFirstMount(t *testing.T) {
	d := &disk{T: t, chip: nand.New()}
	for budget := range 16 {
		if !d.cutMount(budget) {
			t.Fatalf("a first mount of %d steps", budget)
		}
		if g := seen(t, d.chip); g.pointed {
			t.Fatalf("a checkpoint behind %d steps", budget)
		}
	}
	if d.cutMount(16) {
		t.Fatal("a first mount of more than 16 steps")
	}
	if d.view() != newView() {
		t.Errorf("View(): %+v", d.view())
	}
	d.wantFound()
}
