package move_test

import (
	"bytes"
	"math"
	"slices"
	"testing"

	"patina/api"
	"patina/claim"
	"patina/media"
	"patina/move"
	"patina/nand"
	"patina/point"
)

const maxSeq = 1<<40 - 1

// P17.1.

// wantNone begins a core that may not be: there is none, and the chip is as it was.
func wantNone(t *testing.T, chip *nand.Chip, k api.Checkpoint, l []api.Found) {
	t.Helper()
	if core, err := move.New(chip, k, l); core != nil || err != api.ErrArg {
		t.Fatalf("New of %+v, %v: %v, %v, want nil, %v", k, l, core, err, api.ErrArg)
	}
	if chip != nil && (chip.Steps() != 0 || readsOf(chip) != [12]int{}) {
		t.Fatalf("New that is refused did %d steps, and read %v", chip.Steps(), readsOf(chip))
	}
}

func TestNewOfNoChip(t *testing.T) {
	wantNone(t, nil, api.Checkpoint{}, nil)
	wantNone(t, nil, api.Checkpoint{Next: 5, Cursor: 3}, []api.Found{found(0, 24, 4, 0)})
	wantNone(t, nil, api.Checkpoint{Cursor: -1}, nil)
}

func TestNewOfCheckpointsThatCantBeTold(t *testing.T) {
	for _, seq := range []int64{-1, math.MinInt64, maxSeq + 1, math.MaxInt64} {
		wantNone(t, nand.New(), api.Checkpoint{Next: seq}, nil)
		for of := range 24 {
			var k api.Checkpoint
			k.Floors[of] = seq
			wantNone(t, nand.New(), k, nil)
		}
	}
	for _, cursor := range []int{-1, math.MinInt, 96, 255, math.MaxInt} {
		wantNone(t, nand.New(), api.Checkpoint{Cursor: cursor}, nil)
	}
	for block := range 12 {
		for _, reads := range []int{-1, math.MinInt, 65536, math.MaxInt} {
			var k api.Checkpoint
			k.Reads[block] = reads
			wantNone(t, nand.New(), k, nil)
		}
		for _, score := range []int{-1, math.MinInt, 256, math.MaxInt} {
			var k api.Checkpoint
			k.Scores[block] = score
			wantNone(t, nand.New(), k, nil)
		}
	}
}

// At the ends of what can be told there is a core.
func TestNewOfCheckpointsAtTheirEnds(t *testing.T) {
	var k api.Checkpoint
	k.Next, k.Cursor = maxSeq, 95
	for of := range k.Floors {
		k.Floors[of] = maxSeq
	}
	for block := range 12 {
		k.Reads[block], k.Scores[block], k.Bad[block] = 65535, 255, true
	}
	v := begun(t, nand.New(), k, nil).View()
	if v.Next != maxSeq || v.Cursor != 95 || v.Reads != k.Reads || v.Scores != k.Scores || count(v.States, api.Bad) != 12 {
		t.Errorf("View(): %+v", v)
	}
}

// found is a tag and its place.
func found(place, of int, seq int64, copy int) api.Found {
	return api.Found{Place: place, Tag: api.Tag{Place: place, Of: of, Seq: seq, Copy: copy}}
}

// A sector at the last two pages of a block: ErrArg, if it counts there; there is a core, if it doesn't, and of a checkpoint anyway.
func TestNewOfPlacesThatMayNotHoldTheirNumber(t *testing.T) {
	for of := range 24 {
		for place := range 96 {
			l := []api.Found{found(place, of, 5, 0), found(95, 24, 9, 0)}
			if place == 95 {
				l = l[:1]
			}
			if place%8 < 6 {
				v := begun(t, nand.New(), api.Checkpoint{}, l).View()
				if v.Live[of] != place {
					t.Fatalf("the sector %d lies at %d, want %d", of, v.Live[of], place)
				}
				continue
			}
			wantNone(t, nand.New(), api.Checkpoint{}, l)
			var low api.Checkpoint
			low.Floors[of] = 4
			wantNone(t, nand.New(), low, l)
			// At its floor, in a bad block, and behind a newer one, it doesn't count.
			low.Floors[of] = 5
			begun(t, nand.New(), low, l)
			var bad api.Checkpoint
			bad.Bad[place/8] = true
			begun(t, nand.New(), bad, l)
			begun(t, nand.New(), api.Checkpoint{}, append(slices.Clone(l), found(0, of, 6, 0)))
		}
	}
	for place := range 96 {
		v := begun(t, nand.New(), api.Checkpoint{}, []api.Found{found(place, 24, 1, 0)}).View()
		if v.Live[24] != place || v.States[place/8] != api.Full {
			t.Fatalf("the checkpoint at %d: %+v", place, v)
		}
	}
}

// checkpoint is one that can be told, with so many bad blocks at most.
func (s *source) checkpoint(bad int) api.Checkpoint {
	k := api.Checkpoint{Next: int64(s.below(60)), Cursor: s.below(96)}
	for of := range k.Floors {
		k.Floors[of] = int64(s.below(40))
	}
	for range bad {
		k.Bad[s.below(12)] = true
	}
	for block := range 12 {
		k.Reads[block] = []int{0, s.below(600), 65535}[s.below(3)]
		k.Scores[block] = []int{0, s.below(5), 255}[s.below(3)]
	}
	return k
}

// founds are tags at some places, each place once, and some that aren't sound.
func (s *source) founds(holding bool) []api.Found {
	var l []api.Found
	for place := range 96 {
		if s.below(3) == 0 {
			continue
		}
		f := found(place, s.below(25), int64(s.below(50)), s.below(256))
		if holding && place%8 > 5 {
			f.Tag.Of = 24
		}
		l = append(l, f)
	}
	for range s.below(4) {
		l = append(l, found([]int{-1, 96, 3}[s.below(3)], []int{-1, 25, 3}[s.below(3)], -5, 0))
	}
	return l
}

// Against claim, of tags and checkpoints of all kinds: where what counts lies, which blocks are bad, full and free, that none is open, the next seq, cursor, reads and scores; and that the chip isn't touched.
func TestNewOfTagsAndCheckpoints(t *testing.T) {
	s := source(1)
	cores := 0
	for turn := range 3000 {
		k, l := s.checkpoint(turn%5), s.founds(turn%4 > 0)
		live := claim.Live(l, k)
		may := true
		for of, place := range live {
			may = may && (place < 0 || of == 24 || place%8 < 6)
		}
		chip := nand.New()
		if !may {
			wantNone(t, chip, k, l)
			continue
		}
		cores++
		v := begun(t, chip, k, l).View()
		want := api.View{Live: live, Next: claim.Next(l, k), Cursor: k.Cursor, Reads: k.Reads, Scores: k.Scores}
		for block := range 12 {
			switch {
			case k.Bad[block]:
				want.States[block] = api.Bad
			case livesOf(want)[block] > 0:
				want.States[block] = api.Full
			}
		}
		if v != want {
			t.Fatalf("New of %+v, %v: View() is %+v, want %+v", k, l, v, want)
		}
		if chip.Steps() != 0 || readsOf(chip) != [12]int{} {
			t.Fatalf("New did %d steps, and read %v", chip.Steps(), readsOf(chip))
		}
	}
	if cores < 500 {
		t.Errorf("only %d cores", cores)
	}
}

// Two numbers that count at one page: no chip has that, and no core.
func TestNewOfTwoNumbersAtOnePlace(t *testing.T) {
	wantNone(t, nand.New(), api.Checkpoint{}, []api.Found{found(8, 1, 5, 0), found(8, 2, 5, 0)})
	wantNone(t, nand.New(), api.Checkpoint{}, []api.Found{found(8, 24, 5, 0), found(8, 2, 6, 0)})
}

// What the checkpoint told is what the next one tells.
func TestNewKeepsWhatTheCheckpointTells(t *testing.T) {
	s := source(2)
	for turn := range 300 {
		k := s.checkpoint(turn % 3)
		chip := nand.New()
		core := begun(t, chip, k, nil)
		if err := core.Note(); err != nil {
			t.Fatalf("Note(): %v", err)
		}
		want := k
		want.Next = claim.Next(nil, k)
		if g := seen(t, chip); g.point != want || g.at.Tag.Seq != want.Next {
			t.Fatalf("New of %+v, Note(): %+v at %+v", k, g.point, g.at)
		}
	}
}

// A chip that another core has written: the new one reads as it.
func TestNewOfAChipThatWasWritten(t *testing.T) {
	d := newDisk(t)
	d.fill(0)
	for turn := range 50 {
		d.put(turn*7%24, 100+turn)
		if turn%9 == 0 {
			d.trim(turn * 5 % 24)
		}
	}
	d.vacate(d.open(), true)
	was := d.view()
	if !d.again() {
		t.Fatal("the power went")
	}
	v := d.view()
	if v.Live != was.Live || v.Next < was.Next || v.Cursor != was.Cursor || v.Scores != was.Scores {
		t.Errorf("View() was %+v, and is %+v", was, v)
	}
	if d.open() != -1 {
		t.Error("there is a frontier")
	}
	d.wantRest()
	d.wantAll()
	d.put(0, 999)
}

// pageAt programs a page by the layer below.
func pageAt(t *testing.T, chip *nand.Chip, f api.Found, data []byte) {
	t.Helper()
	page := make([]byte, 174)
	copy(page, data)
	if err := media.New(chip).Program(f.Place, f.Tag, page); err != nil {
		t.Fatalf("Program(%+v): %v", f, err)
	}
}

// Of the copies of a page the elder one counts, and the core goes on from the tag that it has: its seq, and its copy.
func TestNewGoesOnFromTheTagThatCounts(t *testing.T) {
	chip := nand.New()
	bytes160 := func(n byte) []byte { return bytes.Repeat([]byte{n}, 160) }
	l := []api.Found{found(0, 24, 7, 255), found(1, 3, 9, 254), found(9, 3, 9, 255), found(17, 3, 8, 0), found(18, 4, 6, 200), found(26, 5, 10, 0)}
	l[5].Tag.Lost = true
	k := api.Checkpoint{Next: 7}
	data, err := point.Write(k)
	if err != nil {
		t.Fatal(err)
	}
	pageAt(t, chip, l[0], data)
	for i, f := range l[1:] {
		if !f.Tag.Lost {
			pageAt(t, chip, f, bytes160(byte(i+1)))
		} else {
			pageAt(t, chip, f, nil)
		}
	}
	core := begun(t, chip, k, l)
	if err := core.Clean(); err != nil {
		t.Fatalf("Clean(): %v", err)
	}
	v := core.View()
	if v.Live[3] != 1 || v.Live[4] != 18 || v.Live[5] != 26 || v.Live[24] != 0 || v.Next != 11 {
		t.Fatalf("View(): %+v", v)
	}
	for _, block := range []int{0, 2, 3} {
		if err := core.Vacate(block, false); err != nil {
			t.Fatalf("Vacate(%d): %v", block, err)
		}
	}
	v = core.View()
	for of, want := range map[int]api.Tag{24: {Of: 24, Seq: 7, Copy: 0}, 3: {Of: 3, Seq: 9, Copy: 255}, 4: {Of: 4, Seq: 6, Copy: 201}, 5: {Of: 5, Seq: 10, Copy: 1, Lost: true}} {
		want.Place = v.Live[of]
		if got, is := tagAt(chip, v.Live[of]); !is || got != want {
			t.Errorf("the number %d has %+v, %v, want %+v", of, got, is, want)
		}
	}
	if got, err := core.Get(3); err != nil || !bytes.Equal(got, bytes160(1)) {
		t.Errorf("Get(3): %v, %v", got, err)
	}
	if got, err := core.Get(5); got != nil || err != api.ErrMedia {
		t.Errorf("Get(5): %v, %v", got, err)
	}
}

// The last seqs: each is used once, and then there is none any more.
func TestNewNearTheLastSeq(t *testing.T) {
	for left := range 5 {
		chip := nand.New()
		core := begun(t, chip, api.Checkpoint{Next: maxSeq + 1 - int64(max(left, 1))}, nil)
		if left == 0 {
			chip = nand.New()
			core = begun(t, chip, api.Checkpoint{}, []api.Found{found(0, 24, maxSeq, 0)})
		}
		for i := range left {
			if err := core.Put(i, text(i, 1)); err != nil {
				t.Fatalf("%d seqs are left, Put(%d): %v", left, i, err)
			}
			if tag, _ := tagAt(chip, core.View().Live[i]); tag.Seq != maxSeq+1-int64(left-i) {
				t.Fatalf("%d seqs are left, Put(%d): %+v", left, i, tag)
			}
		}
		v, steps := core.View(), chip.Steps()
		for i := range 24 {
			if err := core.Put(i, text(i, 2)); err != api.ErrWornOut {
				t.Fatalf("no seq is left, Put(%d): %v", i, err)
			}
		}
		if err := core.Note(); err != api.ErrWornOut {
			t.Fatalf("no seq is left, Note(): %v", err)
		}
		if left > 0 && core.Trim(0) != api.ErrWornOut {
			t.Fatal("no seq is left, Trim(0) isn't ErrWornOut")
		}
		if core.View() != v || chip.Steps() != steps || v.Next != maxSeq {
			t.Fatalf("no seq is left, View() was %+v, and is %+v", v, core.View())
		}
		for i := range left {
			if got, err := core.Get(i); err != nil || !bytes.Equal(got, text(i, 1)) {
				t.Fatalf("Get(%d): %v, %v", i, got, err)
			}
		}
	}
	var k api.Checkpoint
	k.Floors[7] = maxSeq
	if err := begun(t, nand.New(), k, nil).Put(0, text(0, 1)); err != api.ErrWornOut {
		t.Errorf("a floor is the last seq, Put(0): %v", err)
	}
}

// Without a seq a block can be moved, but not be told as bad: what fails then is bad in memory, and nothing is done any more.
func TestMovesWithoutASeq(t *testing.T) {
	for kind := range 6 {
		chip := nand.New()
		core := begun(t, chip, api.Checkpoint{Next: maxSeq - 2}, nil)
		for of := range 3 {
			if err := core.Put(of, text(of, 1)); err != nil {
				t.Fatal(err)
			}
		}
		if err := core.Vacate(0, true); err != api.ErrWornOut || core.View().States[0] != api.Open {
			t.Fatalf("Vacate(0, true) without a seq: %v", err)
		}
		want, states := api.ErrWornOut, [12]int{0: api.Bad}
		switch kind {
		case 0:
			want, states = 0, [12]int{1: api.Open}
		case 1:
			chip.FailErase(0)
			states[1] = api.Full
		default:
			chip.FailProgram(1, 4*(kind-2)+1)
			states = [12]int{0: api.Open, 1: api.Bad}
			if kind == 5 {
				// Only three pages are copied: nothing fails.
				want, states = 0, [12]int{1: api.Open}
			}
		}
		err := core.Vacate(0, false)
		if want == 0 && err != nil || want != 0 && err != want {
			t.Fatalf("kind %d: Vacate(0, false): %v", kind, err)
		}
		if v := core.View(); v.States != states {
			t.Fatalf("kind %d: the states are %v, want %v", kind, v.States, states)
		}
		if want != 0 {
			wantDead(t, chip, core)
		}
		for of := range 3 {
			if got, err := core.Get(of); err != nil || !bytes.Equal(got, text(of, 1)) {
				t.Fatalf("kind %d: Get(%d): %v, %v", kind, of, got, err)
			}
		}
	}
}

// wantDead asks a core that can't program any more for all that would.
func wantDead(t *testing.T, chip *nand.Chip, core *move.Core) {
	t.Helper()
	steps, v := chip.Steps(), core.View()
	for of := range 24 {
		if err := core.Put(of, text(of, 77)); err != api.ErrWornOut {
			t.Fatalf("worn out: Put(%d): %v", of, err)
		}
		want := error(api.ErrWornOut)
		if v.Live[of] < 0 {
			want = nil
		}
		if err := core.Trim(of); err != want {
			t.Fatalf("worn out: Trim(%d): %v, want %v", of, err, want)
		}
	}
	if err := core.Note(); err != api.ErrWornOut {
		t.Fatalf("worn out: Note(): %v", err)
	}
	for block, state := range v.States {
		for _, retire := range []bool{false, true} {
			want := error(api.ErrWornOut)
			if state == api.Free || state == api.Bad {
				want = api.ErrState
			}
			if err := core.Vacate(block, retire); err != want {
				t.Fatalf("worn out: Vacate(%d, %v): %v, want %v", block, retire, err, want)
			}
		}
	}
	if err := core.Clean(); err != nil {
		t.Fatalf("worn out: Clean(): %v", err)
	}
	if core.View() != v {
		t.Fatalf("worn out: View() was %+v, and is %+v", v, core.View())
	}
	for range 9 {
		if err := core.Tend(); err != nil {
			t.Fatalf("worn out: Tend(): %v", err)
		}
	}
	if now := core.View(); now.Live != v.Live || now.States != v.States || now.Moves != v.Moves || now.Reports != v.Reports || now.Next != v.Next || now.Calls != v.Calls+9 {
		t.Fatalf("worn out, tended: View() was %+v, and is %+v", v, now)
	}
	if chip.Steps() != steps {
		t.Fatalf("worn out: there were %d steps, now %d", steps, chip.Steps())
	}
}

// Seen.

func TestSeenOfListsThatHaventTwelve(t *testing.T) {
	d := newDisk(t)
	for many := range 40 {
		if many == 12 {
			continue
		}
		list := slices.Repeat([]int{5}, many)
		d.wantQuiet(func() {
			if err := d.core.Seen(list); err != api.ErrArg {
				t.Fatalf("Seen of %d numbers: %v", many, err)
			}
		})
	}
	d.wantQuiet(func() {
		if d.core.Seen(nil) != api.ErrArg || d.core.Seen([]int{}) != api.ErrArg {
			t.Error("Seen of none")
		}
	})
}

func TestSeenCountsReads(t *testing.T) {
	k := api.Checkpoint{}
	for block := range 12 {
		k.Reads[block] = 100 * block
	}
	numbers := []int{0, 1, 7, 511, 65535, 65536, 65537, math.MaxInt, -1, -65536, math.MinInt, 64435}
	sums := []int{0, 1, 7, 511, 65535, 65535, 65535, 65535, 0, 0, 0, 64435}
	for turn := range 12 {
		chip := nand.New()
		core := begun(t, chip, k, nil)
		was := core.View()
		list := slices.Concat(numbers[turn:], numbers[:turn])
		if err := core.Seen(list); err != nil {
			t.Fatalf("Seen(%v): %v", list, err)
		}
		for block := range 12 {
			was.Reads[block] = min(k.Reads[block]+sums[(turn+block)%12], 65535)
		}
		if v := core.View(); v != was {
			t.Fatalf("Seen(%v): View() is %+v, want %+v", list, v, was)
		}
		if chip.Steps() != 0 || readsOf(chip) != [12]int{} {
			t.Fatal("Seen touched the chip")
		}
	}
}

// What was seen is not written down: 64 reads more are due, 63 aren't; and 512 tire a block in which something counts.
func TestSeenIsDueAndTires(t *testing.T) {
	for _, c := range []struct {
		seen  int
		noted bool
	}{{55, false}, {56, true}, {64, true}} {
		d := newDisk(t)
		d.counted = false
		reads := make([]int, 12)
		reads[0] = c.seen
		if err := d.core.Seen(reads); err != nil {
			t.Fatal(err)
		}
		was := d.view()
		d.tend() // of the block 0 eight pages are read
		if noted := d.view().Live[24] != was.Live[24]; noted != c.noted {
			t.Errorf("%d reads were seen: a checkpoint is programmed: %v", c.seen, noted)
		}
	}
	d := newDisk(t)
	d.counted = false
	d.put(1, 1)
	reads := slices.Repeat([]int{512}, 12)
	if err := d.core.Seen(reads); err != nil {
		t.Fatal(err)
	}
	d.tend()
	if v := d.view(); v.Reports != 1 || v.Moved != 2 || v.States[0] != api.Free || v.Live[1] != 9 {
		t.Errorf("512 reads were seen: %+v", v)
	}
}
