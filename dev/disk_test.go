package dev_test

import (
	"slices"
	"testing"

	"patina/api"
	"patina/dev"
	"patina/nand"
)

// A disk is a chip, a device over it, and one who looks on: what each sector may read as, and whether what was done to the chip is such that the device answers for it.

type disk struct {
	*testing.T
	chip     *nand.Chip
	dev      *dev.Device
	mounted  bool
	may      [24][]string // the texts that a sector may have: one, or, behind calls that were cut, several
	weak     [24]bool     // a codeword of its data had three or four damaged bytes: ErrMedia may be answered, too
	worn     bool         // more than two blocks have failed or are bad
	sight    sight        // what is seen of the chip, told by its truths
	reads    [12]int      // of the chip's blocks, behind the last call
	mounts   [12]int      // since a block's erase, whether they were ended or not
	cursor   int          // behind the last call that was answered, or the last mount
	answered int          // calls so far
	cuts     int          // calls that the power cut
	flips    int          // bits that were turned
	tired    bool         // some block was read so often that a call more may make it 512 times
}

// empty is what a sector reads as that was never written.
var empty = string(make([]byte, 160))

// over is a disk over a chip, whatever its sectors are; it isn't mounted.
func over(t *testing.T, chip *nand.Chip) *disk {
	t.Helper()
	device, err := dev.New(chip)
	if device == nil || err != nil {
		t.Fatalf("New: %v, %v", device, err)
	}
	d := &disk{T: t, chip: chip, dev: device}
	d.look()
	for of := range d.may {
		told, _ := d.told(of)
		d.may[of] = []string{told}
	}
	d.cursor = d.sight.point.Cursor
	for place := range 96 {
		for chunk := range 4 {
			d.flips += worstOf(chip, place, chunk, chunk)
		}
	}
	return d
}

// newDisk is one over a new chip, which is mounted.
func newDisk(t *testing.T) *disk {
	t.Helper()
	return mounted(t, nand.New())
}

// mounted is one over a chip, which is mounted.
func mounted(t *testing.T, chip *nand.Chip) *disk {
	t.Helper()
	d := over(t, chip)
	d.mustMount()
	return d
}

// look looks at the chip. What was turned must be such as it bears: else the test itself is wrong.
func (d *disk) look() {
	d.Helper()
	d.sight = seen(d.T, d.chip)
	for place := range 96 {
		of := slices.Index(d.sight.live[:], place)
		tag := worstOf(d.chip, place, 3, 3)
		if of >= 0 && tag > 2 || of == 24 && worstOf(d.chip, place, 0, 2) > 2 || tag > 4 {
			d.Fatalf("more was turned of the page %d, of the number %d, than is borne", place, of)
		}
		if of >= 0 && of < 24 && worstOf(d.chip, place, 0, 2) > 2 {
			d.weak[of] = true
		}
	}
	failed := failedOf(d.chip)
	many := 0
	for block, bad := range d.sight.point.Bad {
		if bad || failed[block] {
			many++
		}
	}
	d.worn = d.worn || many > 2
}

// view is the device's.
func (d *disk) view() api.View {
	d.Helper()
	v, err := d.dev.Report()
	if err != nil {
		d.Fatalf("Report(): %v", err)
	}
	return v
}

// open is the frontier's block; -1: there is none.
func (d *disk) open() int {
	v := d.view()
	return slices.Index(v.States[:], api.Open)
}

// mount mounts the device; false: the power is off, or went.
func (d *disk) mount() bool {
	d.Helper()
	for block := range d.mounts {
		d.mounts[block]++
	}
	err := d.dev.Mount()
	d.look()
	d.wantTold()
	d.countErased()
	if err == api.ErrPower && !d.chip.On() {
		d.wantUnmounted()
		return false
	}
	if err != nil || !d.chip.On() {
		d.Fatalf("Mount(): %v", err)
	}
	d.mounted = true
	v := d.view()
	// T3: at most eight calls are lost, or the one that was cut off had come so far. Of a chip that is worn out nothing is noted any more.
	if back := (d.cursor - v.Cursor + 96) % 96; back%8 != 0 || back > 64 && back != 88 && !d.worn {
		d.Fatalf("the cursor was %d, and is %d", d.cursor, v.Cursor)
	}
	d.cursor = v.Cursor
	d.wantRest()
	return true
}

// mustMount mounts the device, whose power is on or comes.
func (d *disk) mustMount() {
	d.Helper()
	d.chip.Power()
	if !d.mount() {
		d.Fatal("the power went")
	}
}

// again mounts the chip with another device, as if the first one had never been.
func (d *disk) again() {
	d.Helper()
	device, err := dev.New(d.chip)
	if err != nil {
		d.Fatal(err)
	}
	d.dev = device
	d.mustMount()
}

// cutMount mounts the device, whose power goes behind so many steps; false: it was done within them.
func (d *disk) cutMount(budget int) bool {
	d.Helper()
	d.chip.Power()
	d.chip.Cut(budget)
	cut := !d.mount()
	d.chip.Power()
	return cut
}

// countErased takes over how often the blocks were read; of those that were erased the mounts begin again.
func (d *disk) countErased() {
	for block, many := range readsOf(d.chip) {
		if many < d.reads[block] || isErased(d.chip, block) {
			d.mounts[block] = 0
		}
		d.reads[block] = many
		d.tired = d.tired || many >= 480
	}
}

// read reads a sector, and holds the answer against what it may be.
func (d *disk) read(of int) error {
	d.Helper()
	var got []byte
	weak := d.weak[of]
	err := d.call(of, func() (err error) {
		got, err = d.dev.Read(of)
		return err
	})
	switch {
	case err == nil && slices.Contains(d.may[of], string(got)):
		d.may[of] = []string{string(got)}
	case err == nil:
		d.Fatalf("Read(%d): %v, want %q", of, got, d.may[of])
	case got != nil || err != api.ErrPower && !(err == api.ErrMedia && weak):
		d.Fatalf("Read(%d): %v, %v", of, got, err)
	}
	d.wantTold()
	return err
}

// write writes a sector.
func (d *disk) write(of int, b []byte) error {
	d.Helper()
	err := d.call(-1, func() error { return d.dev.Write(of, b) })
	d.wantChange(of, string(b), err)
	return err
}

// trim trims a sector.
func (d *disk) trim(of int) error {
	d.Helper()
	err := d.call(-1, func() error { return d.dev.Trim(of) })
	d.wantChange(of, empty, err)
	return err
}

// wantChange takes over what a write or a trim did.
func (d *disk) wantChange(of int, behind string, err error) {
	d.Helper()
	switch {
	case err == nil:
		d.may[of], d.weak[of] = []string{behind}, false
	case err == api.ErrPower:
		d.may[of] = append(d.may[of], behind)
	case err != api.ErrWornOut || !d.worn:
		d.Fatalf("a change of the sector %d: %v", of, err)
	}
	d.wantTold()
}

// must is for what can't fail.
func (d *disk) must(err error) {
	d.Helper()
	if err != nil {
		d.Fatal(err)
	}
}

// fill writes all sectors, from a turn on.
func (d *disk) fill(turn int) {
	d.Helper()
	for of := range 24 {
		d.must(d.write(of, text(of, turn+of)))
	}
}

// wantAll reads all sectors.
func (d *disk) wantAll() {
	d.Helper()
	for of := range 24 {
		d.must(d.read(of))
	}
}

// call does a call of a device that is mounted: what holds of every one is looked at behind it. The sector is the one that is read, or -1.
func (d *disk) call(of int, do func() error) error {
	d.Helper()
	ahead := d.view()
	err := do()
	d.look()
	if err == api.ErrPower {
		if d.chip.On() {
			d.Fatal("ErrPower, and the power is on")
		}
		d.cuts++
		d.wantUnmounted()
		d.countErased()
		return err
	}
	if !d.chip.On() {
		d.Fatalf("%v, and the power is off", err)
	}
	d.answered++
	v := d.view()
	if v.Cursor != (ahead.Cursor+8)%96 {
		d.Fatalf("the cursor was %d, and is %d", ahead.Cursor, v.Cursor)
	}
	d.cursor = v.Cursor
	if !d.worn {
		d.wantRefreshed(ahead, v, of)
	}
	d.countErased()
	d.wantRest()
	return err
}

// wantUnmounted takes over that the device isn't mounted any more.
func (d *disk) wantUnmounted() {
	d.Helper()
	d.mounted = false
	if v, err := d.dev.Report(); v != (api.View{}) || err != api.ErrNotMounted {
		d.Fatalf("Report() behind ErrPower: %+v, %v", v, err)
	}
}

// wantRefreshed holds what was read damaged, or too often, to be elsewhere.
func (d *disk) wantRefreshed(ahead, v api.View, of int) {
	d.Helper()
	places := stepOf(ahead.Cursor)
	if of >= 0 && ahead.Live[of] >= 0 {
		places = append(places, ahead.Live[of])
	}
	for _, place := range places {
		if slices.Contains(ahead.Live[:], place) && slices.Contains(v.Live[:], place) && damageOf(d.chip, place) >= 2 {
			d.Fatalf("the page %d was read damaged, and counts still", place)
		}
	}
	for block, many := range readsOf(d.chip) {
		if d.reads[block] >= 512+256*d.mounts[block] && many >= d.reads[block] && len(inBlock(ahead, block)) > 0 && len(inBlock(v, block)) > 0 {
			d.Fatalf("the block %d was read %d times, and wasn't moved", block, many)
		}
	}
	if !d.tired && 2*v.Reports > d.flips {
		d.Fatalf("%d bits were turned, there were %d reports", d.flips, v.Reports)
	}
}

// wantRest holds what the device tells of itself against what lies on the chip.
func (d *disk) wantRest() {
	d.Helper()
	v := d.view()
	if v.Live != d.sight.live {
		d.Fatalf("Live is %v, the chip tells %v", v.Live, d.sight.live)
	}
	bad := count(v.States, api.Bad)
	if free := count(v.States, api.Free); free < boundOf(bad) || count(v.States, api.Open) > 1 {
		d.Fatalf("the states are %v", v.States)
	}
	for block, state := range v.States {
		if state == api.Free && !isErased(d.chip, block) {
			d.Fatalf("the block %d is free, and not erased", block)
		}
		if told := d.sight.point.Bad[block]; !d.worn && (state == api.Bad) != told {
			d.Fatalf("the block %d has the state %d, the checkpoint tells %v", block, state, told)
		}
	}
	if v.Moved < v.Reports || v.Moved > 8*v.Reports {
		d.Fatalf("Reports %d, Moved %d, Moves %d", v.Reports, v.Moved, v.Moves)
	}
}

// wantTold holds what was programmed where the sectors count against what they may be.
func (d *disk) wantTold() {
	d.Helper()
	for of := range 24 {
		if told, lost := d.told(of); !slices.Contains(d.may[of], told) && !(lost && d.weak[of]) {
			d.Fatalf("the sector %d, at %d, has %q, want %q", of, d.sight.live[of], told, d.may[of])
		}
	}
}

// told is what was programmed where a sector counts, and whether that is lost.
func (d *disk) told(of int) (string, bool) {
	d.Helper()
	place := d.sight.live[of]
	if place < 0 {
		return empty, false
	}
	tag, _ := tagAt(d.chip, place)
	return string(dataAt(d.T, d.chip, place)[:160]), tag.Lost
}

// settle takes over what a call that was cut has come to: from now on each sector is what the chip tells.
func (d *disk) settle() {
	d.Helper()
	for of := range d.may {
		told, _ := d.told(of)
		d.may[of] = []string{told}
	}
}

// flip turns a bit.
func (d *disk) flip(place, bit int) {
	d.Helper()
	d.must(d.chip.Flip(place, bit))
	d.flips++
}

// hurt turns a bit each of so many bytes of a page's chunk; done again it turns them back.
func (d *disk) hurt(place, chunk, many int) {
	d.Helper()
	for i := range many {
		d.flip(place, 512*chunk+8*(7*i+3)+i)
	}
	d.look()
}

// bears is how many damaged bytes of a chunk the device answers for; of a sector's data it is told how many.
func (d *disk) bears(place, chunk, data int) int {
	of := slices.Index(d.sight.live[:], place)
	switch {
	case of < 0 && chunk < 3:
		return 64
	case of < 0:
		return 4
	case of < 24 && chunk < 3:
		return data
	}
	return 2
}

// decay turns bits of any chunks, within what they bear; half of them of what counts.
func (d *disk) decay(s *source, many, data int) {
	d.Helper()
	for range many {
		place, chunk := s.below(96), s.below(4)
		if s.below(2) == 0 {
			place = max(d.sight.live[s.below(25)], 0)
		}
		if worstOf(d.chip, place, chunk, chunk) < d.bears(place, chunk, data) {
			d.flip(place, 512*chunk+s.below(512))
		}
	}
	d.look()
}
