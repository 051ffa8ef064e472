package dev_test

import (
	"slices"
	"testing"

	"patina/api"
	"patina/mount"
	"patina/nand"
)

// T3, T4, P19.8: what counts is read within twelve answered calls, what is found damaged or was read too often is moved, and nothing else is.

// elsewhere is a sector in another block than a place.
func (d *disk) elsewhere(place int) int {
	d.Helper()
	for of := range 24 {
		if at := d.sight.live[of]; at >= 0 && at/8 != place/8 {
			return of
		}
	}
	d.Fatal("all sectors lie in one block")
	return 0
}

// Each number's page, of each chunk, from each cursor: with two turned bytes it is elsewhere just behind the call in which the patrol comes to it, the twelfth at the latest.
func TestDamageIsFoundInTime(t *testing.T) {
	t.Parallel()
	chip := full(t).chip
	for of := range 25 {
		for phase := of % 3; phase < 12; phase += 3 {
			d := mounted(t, chip.Clone())
			for range phase {
				d.must(d.read(0))
			}
			place := d.sight.live[of]
			d.hurt(place, (of+phase)%4, 2)
			other, ahead := d.elsewhere(place), d.view()
			due := (place-ahead.Cursor+96)%96/8 + 1
			for call := 1; call <= due; call++ {
				v := d.view()
				if of < 24 && (v.Live[of] != place || v.Reports != 0) {
					t.Fatalf("the number %d, at %d, from the cursor %d: it was moved behind %d calls", of, place, ahead.Cursor, call-1)
				}
				d.must(d.read(other))
			}
			if v := d.view(); v.Live[of] == place || of < 24 && (v.Reports != 1 || v.Scores[place/8] != 1) {
				t.Fatalf("the number %d, at %d, from the cursor %d: %+v", of, place, ahead.Cursor, v)
			}
		}
	}
}

// With one turned byte in each codeword it stays, however often it is read.
func TestOneByteIsNotMoved(t *testing.T) {
	d := full(t)
	d.must(d.trim(0))
	was := d.view()
	for _, place := range was.Live {
		for chunk := 0; place >= 0 && chunk < 4; chunk++ {
			d.hurt(place, chunk, 1)
		}
	}
	for range 3 {
		d.wantAll()
	}
	v := d.view()
	if v.Reports != 0 || v.Moves != was.Moves || v.Scores != [12]int{} || [24]int(v.Live[:24]) != [24]int(was.Live[:24]) {
		t.Errorf("Report() was %+v, and is %+v", was, v)
	}
}

// A sector that is read with two turned bytes, of any chunk, is elsewhere behind that call, and its neighbours of the block with it: each of them once.
func TestWhatIsReadIsMoved(t *testing.T) {
	t.Parallel()
	chip := full(t).chip
	for of := range 24 {
		d := mounted(t, chip.Clone())
		place := d.sight.live[of]
		in := inBlock(d.view(), place/8)
		was := d.view()
		d.hurt(place, of%4, 2)
		d.must(d.read(of))
		v := d.view()
		if v.Reports != 1 || v.Moved != len(in) || v.Moves != len(in) || v.States[place/8] != api.Free {
			t.Fatalf("Report() was %+v, and is %+v", was, v)
		}
		for number := range 25 {
			if moved := v.Live[number] != was.Live[number]; moved != slices.Contains(in, number) {
				t.Fatalf("the number %d lay at %d, and lies at %d", number, was.Live[number], v.Live[number])
			}
		}
		d.wantAll()
	}
}

// The eight pages of the cursor are read in each call, of one block behind the other, and what the call itself reads and programs: no more and no fewer.
func TestWhatACallReads(t *testing.T) {
	d := full(t)
	for turn := range 60 {
		ahead, was := d.view(), readsOf(d.chip)
		of := turn * 5 % 24
		d.must(d.read(of))
		want := was
		want[ahead.Live[of]/8]++
		for _, place := range stepOf(ahead.Cursor) {
			want[place/8]++
		}
		if v := d.view(); v.Live[24] != ahead.Live[24] {
			want[v.Live[24]/8]++ // a checkpoint is read back
		}
		if now := readsOf(d.chip); now != want || d.view().Reads != want {
			t.Fatalf("turn %d: the reads are %v, want %v", turn, now, want)
		}
	}
}

// waits damages what counts somewhere, and lets any calls go on, some of which are cut, until it is elsewhere: it tells how many were answered, and how many cut.
func (d *disk) waits(s *source, of, cutIn int) (int, int) {
	d.Helper()
	place, answered, cuts := d.sight.live[of], d.answered, d.cuts
	d.hurt(place, s.below(4), 2)
	for turn := 0; d.sight.live[of] == place; turn++ {
		if turn > 400 {
			d.Fatalf("the number %d lies at %d still", of, place)
		}
		d.chip.Power()
		if cutIn > 0 && s.below(cutIn) == 0 {
			d.chip.Cut(s.below(12))
		}
		if !d.mounted {
			d.restart(s, harms{})
			continue
		}
		other := s.below(24)
		if other == of || s.below(2) == 0 {
			d.read(d.elsewhere(place))
			continue
		}
		d.write(other, text(other, turn))
	}
	d.chip.Power()
	if !d.mounted {
		d.mustMount()
	}
	return d.answered - answered, d.cuts - cuts
}

// Among any calls: twelve answered ones; eight more for each cut.
func TestDamageIsFoundInTimeBehindCuts(t *testing.T) {
	t.Parallel()
	cuts := 0
	for start := range 10 {
		s := source(700 + start)
		d := full(t)
		for range 12 {
			answered, cut := d.waits(&s, s.below(24), []int{0, 2, 3, 5}[start%4])
			if answered > 12+8*cut {
				t.Fatalf("it took %d answered calls and %d cuts", answered, cut)
			}
			cuts += cut
		}
		d.wantAll()
	}
	if cuts < 60 {
		t.Errorf("only %d cuts", cuts)
	}
}

// One call in nine is cut, or in more: the patrol comes round all the same.
func TestThePatrolGoesOnBehindCuts(t *testing.T) {
	t.Parallel()
	for every := 9; every < 14; every++ {
		d := full(t)
		place := d.sight.live[23]
		d.hurt(place, 0, 2)
		calls, cuts := 0, 0
		for ; d.sight.live[23] == place; calls++ {
			if calls%every == every-1 {
				d.chip.Cut(2)
				d.write(1, text(1, calls))
				d.mustMount()
				d.settle()
				cuts++
				continue
			}
			d.must(d.read(0))
			if calls > 300 {
				t.Fatalf("one call in %d is cut: the sector lies at %d still", every, place)
			}
		}
		if calls-cuts > 12+8*cuts {
			t.Errorf("one call in %d is cut: %d calls, %d cuts", every, calls, cuts)
		}
	}
}

// A sector that is read over and over: its block is moved once it was read 512 times, not earlier, and so is each other one.
func TestASectorThatIsReadOverAndOver(t *testing.T) {
	t.Parallel()
	d := full(t)
	for range 1500 {
		ahead, was := d.view(), readsOf(d.chip)
		d.must(d.read(3))
		v := d.view()
		var tired []int
		for _, place := range stepOf(ahead.Cursor) {
			was[place/8]++
		}
		was[ahead.Live[3]/8]++
		pages := 0
		for block, many := range was {
			if in := inBlock(ahead, block); many >= 512 && len(in) > 0 {
				tired = append(tired, block)
				pages += len(in)
			}
		}
		if v.Reports != ahead.Reports+len(tired) || v.Moved != ahead.Moved+pages {
			t.Fatalf("%v are tired: Report() was %+v, and is %+v", tired, ahead, v)
		}
		for _, block := range tired {
			if readsOf(d.chip)[block] >= 512 {
				t.Fatalf("the block %d wasn't erased: %+v", block, v)
			}
		}
	}
	if v := d.view(); v.Reports < 5 || v.Scores != [12]int{} || count(v.States, api.Bad) > 0 {
		t.Errorf("Report(): %+v", v)
	}
	d.wantSound()
}

// Reads are counted on behind each mount, with 256 for each that may be lost.
func TestReadsAreCountedBehindMounts(t *testing.T) {
	t.Parallel()
	for every := 20; every < 260; every += 60 {
		d := full(t)
		place := d.sight.live[3]
		calls, mounts := 0, 0
		for ; d.sight.live[3] == place; calls++ {
			d.must(d.read(3))
			if calls%every == every-1 {
				off(t, d.chip)
				d.again()
				mounts++
			}
			if calls > 600+256*mounts {
				t.Fatalf("a mount each %d calls: read %v times, it lies at %d still", every, readsOf(d.chip), place)
			}
		}
		if calls < 250 {
			t.Errorf("moved behind %d reads", calls)
		}
	}
}

// Nothing is damaged, and no block was read 512 times: nothing is moved for that, whatever is called, cut and mounted.
func TestNothingIsMovedAheadOfTheLimit(t *testing.T) {
	t.Parallel()
	for start := range 6 {
		s := source(800 + start)
		d := newDisk(t)
		for range 3 {
			d.run(&s, harms{fail: start % 2, cuts: start % 3 * 3}, 80)
			if v := d.view(); !d.tired && (v.Reports != 0 || v.Moved != 0 || v.Scores != [12]int{}) {
				t.Fatalf("Report(): %+v", v)
			}
		}
		if d.tired {
			t.Error("some block was read too often")
		}
	}
}

// arrive writes sectors until something counts in a block that isn't open, and tells which sector lies there.
func (d *disk) arrive(block, turn int) int {
	d.Helper()
	for ; ; turn++ {
		for _, of := range inBlock(d.view(), block) {
			if of < 24 && d.view().Cursor/8 != block {
				return of
			}
		}
		d.must(d.write(turn%24, text(turn%24, turn)))
	}
}

// wantNoted calls until a checkpoint is programmed, and mounts: the scores are as they were.
func (d *disk) wantNoted() {
	d.Helper()
	for d.view().Calls != 0 {
		d.must(d.read(0))
	}
	was := d.view()
	d.again()
	if v := d.view(); v.Scores != was.Scores {
		d.Fatalf("the scores were %v, and are %v", was.Scores, v.Scores)
	}
}

// A block that is reported three times is retired at the third; with two bad ones it is moved as any other.
func TestBlocksAreRetired(t *testing.T) {
	t.Parallel()
	d := full(t)
	for i, block := range []int{5, 2, 9, 7} {
		for report := 1; report <= 4; report++ {
			of := d.arrive(block, 100*report)
			d.hurt(d.sight.live[of], report%4, 2)
			was := d.view()
			d.must(d.read(of))
			v := d.view()
			want := api.Free
			if i < 2 && report == 3 {
				want = api.Bad
			}
			if v.Scores[block] != report || v.States[block] != want || v.Reports != was.Reports+1 || v.Live[of]/8 == block {
				t.Fatalf("the block %d, report %d: Report() was %+v, and is %+v", block, report, was, v)
			}
			if want == api.Bad {
				break
			}
			if report == 2 {
				d.wantNoted()
			}
		}
	}
	if v := d.view(); v.States[5] != api.Bad || v.States[2] != api.Bad || count(v.States, api.Bad) != 2 || d.worn {
		t.Errorf("Report(): %+v", v)
	}
	d.wantSound()
}

// Three damaged pages of a block, all of which one call reads, are three reports: it is retired at once.
func TestThreeReportsOfOneCall(t *testing.T) {
	for many := 1; many < 6; many++ {
		d := full(t)
		for d.view().Cursor != 8 {
			d.must(d.read(23))
		}
		in := inBlock(d.view(), 1)
		for i := range many {
			d.hurt(d.sight.live[in[i]], i%4, 2)
		}
		d.must(d.read(23))
		want := api.Free
		if many > 2 {
			want = api.Bad
		}
		if v := d.view(); v.Scores[1] != many || v.States[1] != want || v.Reports != 1 || v.Moved != len(in) {
			t.Errorf("%d pages: Report() is %+v", many, v)
		}
		d.wantSound()
	}
}

// A chip that tells of its blocks what one call makes tired or weak is mounted: it is the device that goes on from there.
func TestTheCheckpointsCountsHold(t *testing.T) {
	d := full(t)
	core, err := mount.Mount(d.chip)
	if err != nil {
		t.Fatal(err)
	}
	block := d.sight.live[3] / 8
	seen := make([]int, 12)
	seen[block] = 600
	d.must(core.Seen(seen))
	d.must(core.Note())
	d = mounted(t, d.chip)
	was := d.view()
	if was.Reads[block] < 600 {
		t.Fatalf("Report(): %+v", was)
	}
	d.tired = true
	d.must(d.read(d.elsewhere(8 * block)))
	if v := d.view(); v.Reports != 1 || v.States[block] != api.Free || v.Live[3]/8 == block {
		t.Errorf("Report() was %+v, and is %+v", was, v)
	}
	d.wantSound()
}

// With much decay no more pages are moved than reports account for: eight each, and a report for two turned bits at least.
func TestMovesHaveTheirReports(t *testing.T) {
	t.Parallel()
	for start := range 6 {
		s := source(900 + start)
		d := newDisk(t)
		d.fill(0)
		d.run(&s, harms{bits: 4 + start, data: 2}, 150)
		v := d.view()
		scores := 0
		for _, score := range v.Scores {
			scores += score
		}
		if v.Reports == 0 || v.Moved > 8*v.Reports || v.Reports > scores || 2*scores > 2*d.flips {
			t.Errorf("%d bits were turned: %+v", d.flips, v)
		}
	}
}

// A new chip is patrolled as well, though nothing lies there but the checkpoint.
func TestThePatrolOfANewChip(t *testing.T) {
	d := mounted(t, nand.New())
	for range 5 {
		place := d.sight.live[24]
		d.hurt(place, 2, 2)
		for call := 0; d.sight.live[24] == place; call++ {
			if call == 12 {
				t.Fatalf("the checkpoint lies at %d still", place)
			}
			d.must(d.read(0))
		}
	}
	d.wantSound()
}
