package move_test

import (
	"testing"

	"patina/api"
	"patina/nand"
)

// P17.6, and how a move lies on the chip.

func TestVacateOfWhatMayNotBe(t *testing.T) {
	for _, d := range []*disk{newDisk(t), worn(t)} {
		for _, block := range noBlocks() {
			for _, retire := range []bool{false, true} {
				d.wantQuiet(func() {
					if err := d.core.Vacate(block, retire); err != api.ErrArg {
						t.Fatalf("Vacate(%d, %v): %v", block, retire, err)
					}
				})
			}
		}
	}
}

// withBad is a disk with all sectors and so many bad blocks.
func withBad(t *testing.T, bad int) *disk {
	t.Helper()
	d := newDisk(t)
	d.fill(0)
	for i := range bad {
		d.vacate(d.view().Live[3*i]/8, true)
	}
	d.put(5, 77)
	if n := count(d.view().States, api.Bad); n != bad {
		t.Fatalf("%d blocks are bad, want %d", n, bad)
	}
	return d
}

// Each block, free, open, full and bad, with and without retire, with none, one, two and three blocks bad.
func TestVacateOfEachBlock(t *testing.T) {
	for bad := range 3 {
		for block := range 12 {
			for _, retire := range []bool{false, true} {
				d := withBad(t, bad)
				d.wantVacate(block, retire)
			}
		}
	}
	d := worn(t)
	for block, state := range states(d) {
		for _, retire := range []bool{false, true} {
			d.wantQuiet(func() {
				want := api.ErrState
				if state == api.Full || state == api.Open {
					want = api.ErrWornOut
				}
				if err := d.core.Vacate(block, retire); err != want {
					t.Fatalf("worn out, Vacate(%d, %v): %v, want %v", block, retire, err, want)
				}
			})
		}
	}
}

// wantVacate moves a block of a disk on which nothing is to fail, and holds all that is told of it.
func (d *disk) wantVacate(block int, retire bool) {
	d.Helper()
	was, tags, steps := d.view(), tagsIn(d, block), d.chip.Steps()
	bad := count(was.States, api.Bad)
	err := d.core.Vacate(block, retire)
	d.wantRest()
	switch {
	case was.States[block] == api.Free || was.States[block] == api.Bad:
		if err != api.ErrState {
			d.Fatalf("Vacate(%d, %v): %v", block, retire, err)
		}
	case retire && bad == 2:
		if err != api.ErrWornOut {
			d.Fatalf("Vacate(%d, %v): %v", block, retire, err)
		}
	case err != nil:
		d.Fatalf("Vacate(%d, %v): %v", block, retire, err)
	default:
		d.wantVacated(was, tags, steps, block, retire)
		d.wantAll()
		return
	}
	if d.view() != was || d.chip.Steps() != steps {
		d.Fatalf("Vacate(%d, %v): View() was %+v, and is %+v", block, retire, was, d.view())
	}
}

// tagsIn are the tags that count in a block, by rising place.
func tagsIn(d *disk, block int) []api.Tag {
	d.Helper()
	var tags []api.Tag
	v := d.view()
	for _, of := range inBlock(v, block) {
		tag, is := tagAt(d.chip, v.Live[of])
		if !is {
			d.Fatalf("the number %d has no tag", of)
		}
		tags = append(tags, tag)
	}
	return tags
}

// wantVacated holds what a move left: the tags that counted, from the first page of the next free block on, each with a copy one more; of a block that is retired without the checkpoint, but with a new one behind them.
func (d *disk) wantVacated(was api.View, tags []api.Tag, steps, block int, retire bool) {
	d.Helper()
	v := d.view()
	want := was.States
	want[block] = api.Free
	if retire {
		want[block] = api.Bad
	}
	to := d.open()
	pages := 0
	for _, tag := range tags {
		if retire && tag.Of == 24 {
			continue
		}
		tag.Place, tag.Copy = 8*to+pages, (tag.Copy+1)%256
		if got, is := tagAt(d.chip, tag.Place); !is || got != tag || v.Live[tag.Of] != tag.Place {
			d.Fatalf("the page %d has %+v, want %+v", tag.Place, got, tag)
		}
		pages++
	}
	if retire {
		if tag, _ := tagAt(d.chip, 8*to+pages); tag != (api.Tag{Place: 8*to + pages, Of: 24, Seq: was.Next}) || v.Next != was.Next+1 {
			d.Fatalf("the commit has %+v, Next was %d, and is %d", tag, was.Next, v.Next)
		}
		pages++
	}
	for i, s := range want {
		if s == api.Open {
			want[i] = api.Full
		}
	}
	if to >= 0 && pages > 0 {
		want[to] = api.Open
	}
	if v.States != want || v.Moves != was.Moves+pages || v.Reports != was.Reports || v.Moved != was.Moved {
		d.Fatalf("%d pages, View() was %+v, and is %+v, want the states %v", pages, was, v, want)
	}
	// Four chunks a page, and an erase: no more is done.
	if more := d.chip.Steps() - steps; more != 4*pages && retire || more != 4*pages+1 && !retire {
		d.Fatalf("%d pages were moved by %d steps", pages, more)
	}
	if !retire && (v.Next != was.Next || v.Reads[block] != 0) {
		d.Fatalf("View() was %+v, and is %+v", was, v)
	}
}

// All blocks in turn, over and over: the copies go round, 255 is followed by 0.
func TestVacateOverAndOver(t *testing.T) {
	d := newDisk(t)
	for of := range 4 {
		d.put(of, of)
	}
	for turn := range 600 {
		block := d.open()
		d.wantVacate(block, false)
		for of := range 4 {
			if tag, _ := tagAt(d.chip, d.view().Live[of]); tag.Copy != (turn+1)%256 || tag.Seq != int64(of+2) {
				t.Fatalf("turn %d: the sector %d has %+v", turn, of, tag)
			}
		}
	}
	d.wantAll()
}

// A block in which nothing counts is erased, and nothing is copied: the frontier goes on.
func TestVacateOfABlockInWhichNothingCounts(t *testing.T) {
	d := newDisk(t)
	for turn := range 14 {
		d.put(0, turn)
		if turn == 6 {
			d.note()
		}
	}
	was, steps := d.view(), d.chip.Steps()
	if was.States != [12]int{api.Full, api.Full, api.Open} || livesOf(was)[0] != 0 {
		t.Fatalf("View(): %+v", was)
	}
	d.vacate(0, false)
	was.States[0], was.Reads[0] = api.Free, 0
	if v := d.view(); v != was || d.chip.Steps() != steps+1 {
		t.Errorf("View() is %+v, want %+v", v, was)
	}
	d.wantAll()
	// If it fails, or is to be retired, a checkpoint tells it.
	for kind := range 2 {
		d := newDisk(t)
		for turn := range 14 {
			d.put(0, turn)
			if turn == 6 {
				d.note()
			}
		}
		if kind == 0 {
			d.chip.FailErase(0)
		}
		d.vacate(0, kind == 1)
		if v := d.view(); v.States != [12]int{api.Bad, api.Full, api.Full, api.Open} || v.Live[24] != 24 || v.Moves != 1 {
			t.Errorf("kind %d: View() is %+v", kind, v)
		}
		d.wantAll()
	}
}

// Damaged pages are put right by a move, up to two bytes a chunk; what can't be read is lost; the neighbours are as they were.
func TestVacatePutsRight(t *testing.T) {
	for chunk := range 4 {
		for many := range 5 {
			for _, retire := range []bool{false, true} {
				d := newDisk(t)
				d.fill(0)
				at := d.view().Live[8]
				d.hurt(at, chunk, many)
				d.lost[8] = many > 2
				d.vacate(at/8, retire)
				d.wantLost(8, many > 2)
				d.wantAll()
				for c := range 4 {
					if damage, worst, _ := d.chip.Damage(d.view().Live[8], c); damage != 0 || worst != 0 {
						t.Fatalf("the chunk %d has the damage %d, %d", c, damage, worst)
					}
				}
				if v := d.view(); v.Scores != [12]int{} {
					t.Fatalf("the scores are %v", v.Scores)
				}
			}
		}
	}
}

// A checkpoint is never lost: where its data can't be read it is programmed as it is known.
func TestVacateOfACheckpointThatCantBeRead(t *testing.T) {
	for chunk := range 4 {
		for _, retire := range []bool{false, true} {
			d := newDisk(t)
			d.fill(0)
			d.trim(4)
			d.vacate(2, true)
			d.put(7, 50)
			was := seen(t, d.chip)
			d.hurt(was.at.Place, chunk, 3)
			d.vacate(was.at.Place/8, retire)
			g := seen(t, d.chip)
			if g.point.Floors != was.point.Floors || !g.point.Bad[2] {
				t.Fatalf("the checkpoint was %+v, and is %+v", was.point, g.point)
			}
			if !retire && (g.at.Tag.Seq != was.at.Tag.Seq || g.at.Tag.Copy != was.at.Tag.Copy+1 || g.point.Next != was.point.Next) {
				t.Fatalf("the checkpoint had %+v, and has %+v", was.at, g.at)
			}
			d.wantAll()
			if !d.again() {
				t.Fatal("the power went")
			}
			d.wantAll()
		}
	}
}

// The erase of the block fails: a checkpoint behind the copies tells it as bad.
func TestVacateWhereTheEraseFails(t *testing.T) {
	for bad := range 2 {
		for _, pointed := range []bool{false, true} {
			d := withBad(t, bad)
			block := d.view().Live[24] / 8
			if !pointed {
				block = (d.view().Live[23]) / 8
			}
			was, tags := d.view(), tagsIn(d, block)
			d.chip.FailErase(block)
			d.vacate(block, false)
			v := d.view()
			if v.States[block] != api.Bad || v.Moves != was.Moves+len(tags)+1 || v.Next != was.Next+1 {
				t.Fatalf("View() was %+v, and is %+v", was, v)
			}
			to := d.open()
			for i, tag := range tags {
				tag.Place, tag.Copy = 8*to+i, tag.Copy+1
				if got, _ := tagAt(d.chip, 8*to+i); got != tag {
					t.Fatalf("the page %d has %+v, want %+v", 8*to+i, got, tag)
				}
			}
			if v.Live[24] != 8*to+len(tags) {
				t.Fatalf("the checkpoint lies at %d", v.Live[24])
			}
			d.wantAll()
		}
	}
}

// With two bad already the block can't be told as bad: all stays where it counts, the elder copies, and nothing is done any more.
func TestVacateWhereTheEraseFailsAndWearsOut(t *testing.T) {
	for _, open := range []bool{false, true} {
		d := withBad(t, 2)
		was := d.view()
		block := was.Live[23] / 8
		if open {
			block = d.open()
		}
		d.chip.FailErase(block)
		if err := d.core.Vacate(block, false); err != api.ErrWornOut {
			t.Fatalf("Vacate(%d, false): %v", block, err)
		}
		v := d.view()
		if v.Live != was.Live || v.States[block] != api.Bad || v.Moves != was.Moves {
			t.Fatalf("View() was %+v, and is %+v", was, v)
		}
		d.wantRest()
		d.wantAll()
		wantDead(t, d.chip, d.core)
		d.wantAll()
	}
}

// nextFree are the free blocks, in the order in which they will be taken: behind the last one that was.
func nextFree(d *disk, last int) []int {
	var list []int
	for i := range 12 {
		block := (last + 1 + i) % 12
		if d.view().States[block] == api.Free {
			list = append(list, block)
		}
	}
	return list
}

// The block that is copied into fails, at any chunk of any page: it is bad, a checkpoint tells this ahead of the next try, at the frontier; and the next try ends.
func TestVacateWhereTheCopyFails(t *testing.T) {
	t.Parallel()
	for bad := range 3 {
		for after := range 30 {
			for _, open := range []bool{false, true} {
				for _, retire := range []bool{false, true} {
					if retire && bad == 2 {
						continue
					}
					d := withBad(t, bad)
					block := d.open()
					if !open {
						block = d.view().Live[23] / 8
					}
					d.wantCopyFails(block, after, retire)
				}
			}
		}
	}
}

// wantCopyFails moves a block, where the next free one fails at a write.
func (d *disk) wantCopyFails(block, after int, retire bool) {
	d.Helper()
	was, tags := d.view(), tagsIn(d, block)
	bad := count(was.States, api.Bad)
	to := nextFree(d, d.open())[0]
	pages := len(tags)
	if retire {
		pages++
		for _, tag := range tags {
			if tag.Of == 24 {
				pages--
			}
		}
	}
	d.chip.FailProgram(to, after)
	err := d.core.Vacate(block, retire)
	d.wantRest()
	v := d.view()
	failed, _ := d.chip.Failed(to)
	if failed != (after < 4*pages) {
		d.Fatalf("%d pages, the block %d has failed at the write %d: %v", pages, to, after, failed)
	}
	switch {
	case !failed:
		if err != nil || v.States[to] != api.Open {
			d.Fatalf("Vacate(%d, %v): %v, %+v", block, retire, err, v)
		}
	case bad == 2:
		if err != api.ErrWornOut || v.Live != was.Live || v.States[block] != was.States[block] {
			d.Fatalf("Vacate(%d, %v): %v, View() was %+v, and is %+v", block, retire, err, was, v)
		}
		wantDead(d.T, d.chip, d.core)
	default:
		// With retire, one block may be bad ahead of the last try; else it is moved as any other.
		want := api.Free
		if retire && bad+1 < 2 {
			want = api.Bad
		}
		if err != nil || v.States[to] != api.Bad || v.States[block] != want || len(inBlock(v, block)) > 0 {
			d.Fatalf("Vacate(%d, %v): %v, %+v", block, retire, err, v)
		}
	}
	d.wantAll()
	if !d.again() {
		d.Fatal("the power went")
	}
	d.wantAll()
}

// Where the checkpoint goes that tells a failed copy: at the frontier, if it has a page, also if that is the block that is moved.
func TestWhereAFailedCopyIsTold(t *testing.T) {
	// The frontier is another block, with a page.
	d := withBad(t, 0)
	open := d.open()
	next := nextFree(d, open)
	d.chip.FailProgram(next[0], 5)
	at := 8*open + taken(d, open)
	d.vacate(1, false)
	if k := pointAt(t, d.chip, at); !k.Bad[next[0]] || count(d.view().States, api.Bad) != 1 {
		t.Errorf("the checkpoint at %d is %+v", at, k)
	}
	if v := d.view(); v.States[open] != api.Full || v.States[next[1]] != api.Open || v.States[1] != api.Free {
		t.Errorf("View(): %+v", v)
	}
	// It is another block, without one.
	d = withBad(t, 0)
	open = d.open()
	for taken(d, open) < 8 {
		d.note()
	}
	next = nextFree(d, open)
	d.chip.FailProgram(next[0], 5)
	d.vacate(1, false)
	if k := pointAt(t, d.chip, 8*next[1]); !k.Bad[next[0]] {
		t.Errorf("the checkpoint at %d is %+v", 8*next[1], k)
	}
	if v := d.view(); v.States[open] != api.Full || v.States[next[1]] != api.Full || v.States[next[2]] != api.Open || v.States[1] != api.Free {
		t.Errorf("View(): %+v", v)
	}
	// It is the block that is moved.
	d = withBad(t, 0)
	open = d.open()
	next = nextFree(d, open)
	d.chip.FailProgram(next[0], 5)
	sectors := len(inBlock(d.view(), open))
	if d.view().Live[24]/8 == open {
		sectors--
	}
	d.vacate(open, false)
	if v := d.view(); v.States[next[0]] != api.Bad || v.States[next[1]] != api.Open || v.States[open] != api.Free || v.Live[24] != 8*next[1]+sectors {
		t.Errorf("View(): %+v", v)
	}
	d.wantAll()
}

// The frontier in which a failed copy is to be told fails, too, and is the block that is moved: it is bad then, and nothing counts in it.
func TestVacateOfAFrontierThatFailsOnTheWay(t *testing.T) {
	d := withBad(t, 0)
	open := d.open()
	next := nextFree(d, open)
	d.chip.FailProgram(next[0], 1)
	d.chip.FailProgram(open, 2)
	d.vacate(open, false)
	if v := d.view(); v.States[next[0]] != api.Bad || v.States[open] != api.Bad || len(inBlock(v, open)) > 0 || v.States[next[1]] != api.Open {
		t.Errorf("View(): %+v", v)
	}
	d.wantAll()
	d.put(3, 3)
	d.wantAll()
}

// Vacate where nobody has cleaned, and no checkpoint counts: what counts is moved all the same.
func TestVacateWithoutACheckpoint(t *testing.T) {
	chip := nand.New()
	d := &disk{T: t, chip: chip, counted: true, knowing: true}
	d.core = begun(t, chip, api.Checkpoint{}, nil)
	d.put(3, 1)
	d.vacate(0, false)
	if v := d.view(); v.Live[3] != 8 || v.Live[24] != -1 || v.Moves != 1 {
		t.Errorf("View(): %+v", v)
	}
	d.vacate(1, true)
	if v := d.view(); v.Live[3] != 16 || v.Live[24] != 17 || v.Moves != 3 {
		t.Errorf("View(): %+v", v)
	}
	d.wantAll()
}
