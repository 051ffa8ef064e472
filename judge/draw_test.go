package judge_test

import (
	"testing"

	"patina/api"
	"patina/claim"
	"patina/media"
	"patina/mount"
	"patina/nand"
	"patina/point"
	"patina/script"
	"patina/world"
)

// Texts are drawn step by step beside a world that does them, so that harm can be aimed: bits turn where something counts, as many as are borne, and what was cut off is mounted again.

// harms is what a text does to its chip, and how it calls.
type harms struct {
	bits    int  // ahead of one call in so many some bits turn; 0: of none
	burst   int  // chunks that are hit then, at most
	data    int  // damaged bytes of a codeword of a sector's data, at most
	blind   bool // bits turn anywhere, whatever is borne
	fails   int  // ahead of one call in so many a block is to fail; 0: of none
	blocks  int  // so many times at most
	cuts    int  // ahead of one call in so many the power is to go; 0: of none
	budget  int  // behind fewer steps than these
	wrong   int  // ahead of one call in so many a step is refused; 0: of none
	sectors int  // most calls are of these first sectors
}

// drawn are harms of all kinds together.
func (s *source) drawn() harms {
	one := func(of ...int) int { return of[s.below(len(of))] }
	return harms{
		bits: one(0, 1, 2, 3, 6, 12), burst: 1 + s.below(12), data: one(2, 2, 2, 3, 4, 5, 7, 20),
		fails: one(0, 0, 5, 20, 60), blocks: 1 + s.below(14),
		cuts: one(0, 0, 1, 3, 8, 20), budget: one(2, 10, 40, 150),
		wrong: one(0, 0, 10), sectors: one(1, 3, 6, 24),
	}
}

// drawer draws a text.
type drawer struct {
	source
	harms
	w     *world.World
	steps []api.Step
	l     []api.Entry
}

// begun is a text without a step.
func begun(start int, h harms) *drawer {
	return &drawer{source: source(start), harms: h, w: world.New()}
}

// draw draws a text of so many calls, which ends with a reading of all sectors, again behind a cut.
func draw(start int, h harms, calls int) *drawer {
	d := begun(start, h)
	d.calls(calls)
	d.readAll()
	d.do(9, 0)
	d.do(2, 0, 3)
	d.readAll()
	return d
}

// calls draws so many calls, and the harm between them.
func (d *drawer) calls(many int) {
	for range many {
		d.harm()
		d.mount()
		d.call()
	}
}

// readAll reads all sectors, of a device that is mounted for it.
func (d *drawer) readAll() {
	d.do(10)
	if !d.w.Look().Mounted {
		d.do(4)
	}
	for sector := range 24 {
		d.do(1, sector)
	}
}

// text is what was drawn.
func (d *drawer) text(t *testing.T) string {
	t.Helper()
	text, err := script.Text(d.steps)
	if err != nil {
		t.Fatal(err)
	}
	return text
}

// do does a step, which is one of the text from then on.
func (d *drawer) do(kind int, numbers ...int) {
	of := step(kind, numbers...)
	d.steps = append(d.steps, of)
	d.l = append(d.l, d.w.Run([]api.Step{of})...)
}

// is draws whether it is done ahead of this call, as of one in so many.
func (d *drawer) is(many int) bool { return many > 0 && d.below(many) == 0 }

// harm does what harms tell.
func (d *drawer) harm() {
	d.fail()
	if d.is(d.bits) {
		d.decay()
	}
	if d.is(d.cuts) {
		d.do(9, d.below(1+d.below(d.budget)))
	}
	if d.is(d.wrong) {
		d.refused()
	}
}

// fail lets a block fail at some write or erase.
func (d *drawer) fail() {
	if d.blocks == 0 || !d.is(d.fails) {
		return
	}
	d.blocks--
	if d.below(3) == 0 {
		d.do(8, d.below(12))
		return
	}
	d.do(7, d.below(12), d.below([]int{1, 4, 32, 64}[d.below(4)]))
}

// refused does a step with numbers that may not be, or of which nothing comes.
func (d *drawer) refused() {
	below, above := -1-d.below(3), 1<<d.below(62)
	switch d.below(8) {
	case 0, 1, 2:
		d.do(1, []int{below, 24, 23 + above}[d.below(3)])
	case 3:
		d.do(2, []int{below, 24, 23 + above}[d.below(3)], 7)
	case 4:
		d.do(3, []int{below, 24, 23 + above}[d.below(3)])
	case 5:
		d.do(6, []int{below, 96, 95 + above}[d.below(3)], d.below(2048))
	case 6:
		d.do(7, d.below(12), below)
	case 7:
		d.do(9, below)
	}
}

// mount mounts a device that isn't mounted; the power may go again on the way, bits turn while it is off, and blocks fail.
func (d *drawer) mount() {
	for tries := 0; !d.w.Look().Mounted; tries++ {
		if d.below(6) == 0 {
			d.do(1+d.below(3), d.below(25))
		}
		if d.bits > 0 && d.below(4) == 0 {
			d.decay()
		}
		d.fail()
		if !d.w.Look().On {
			if d.below(5) == 0 {
				d.do(4)
			}
			d.do(10)
		}
		if tries < 6 && d.cuts > 0 && d.below(2) == 0 {
			d.do(9, d.below(1+d.below(25)))
		}
		d.do(4)
	}
}

// call does a call of the host's, a report, or a mount that is refused.
func (d *drawer) call() {
	sector := d.below(24)
	if d.below(4) > 0 {
		sector = d.below(d.sectors)
	}
	switch kind := d.below(40); {
	case kind < 14:
		d.sectorCall(1, sector)
	case kind < 18:
		d.sectorCall(3, sector)
	case kind < 19:
		d.do(5)
	case kind < 20:
		d.do(4)
	default:
		d.sectorCall(2, sector)
	}
}

// sectorCall does a call of that kind of a sector.
func (d *drawer) sectorCall(kind, sector int) {
	if kind == 2 {
		d.do(2, sector, d.below(1<<20)-1<<19)
		return
	}
	d.do(kind, sector)
}

// decay turns bits of some chunks, two in three of them of what counts; so many that nothing is Broken, but where it is blind.
func (d *drawer) decay() {
	chip := d.w.Chip()
	live, owner := counting(chip)
	for range 1 + d.below(d.burst) {
		place, chunk := d.below(96), d.below(4)
		if at := live[d.below(25)]; at >= 0 && d.below(3) > 0 {
			place = at
		}
		// Now and then many bytes of one chunk: else few of them would ever have more than two.
		for range 1 + d.below(2)*d.below(1+d.data) {
			if _, worst, _ := chip.Damage(place, chunk); !d.blind && worst >= d.borne(owner[place], chunk) {
				break
			}
			d.do(6, place, 512*chunk+d.below(512))
		}
	}
}

// borne is how many damaged bytes of a chunk are borne, by the number that counts in its page; below 0: none.
func (d *drawer) borne(of, chunk int) int {
	switch {
	case of == 24, of >= 0 && chunk == 3:
		return 2
	case chunk == 3:
		return 4
	case of >= 0:
		return d.data
	}
	return 64
}

// counting is where the numbers lie that count on a chip, and which number counts at each place; -1: none.
func counting(chip *nand.Chip) ([25]int, [96]int) {
	chip = chip.Clone()
	chip.Power()
	founds, _ := mount.Scan(chip)
	var live [25]int
	for of := range live {
		live[of] = -1
	}
	if newest, is := claim.Newest(founds, 24, -1); is {
		page, _ := media.New(chip).Read(newest.Place)
		if k, err := point.Read(page.Data); err == nil {
			live = claim.Live(founds, k)
		}
	}
	var owner [96]int
	for place := range owner {
		owner[place] = -1
	}
	for of, place := range live {
		if place >= 0 {
			owner[place] = of
		}
	}
	return live, owner
}
