package move_test

import (
	"bytes"
	"errors"
	"math"
	"slices"
	"testing"

	"patina/api"
	"patina/move"
	"patina/nand"
)

// R1 to R4: all arguments, which error is told, what is handed in is neither changed nor kept, what is answered is the caller's own, and hangs on what was done with that core and its chip alone.

// isOne tells whether an error is nil, or one of these Codes itself.
func isOne(err error, codes ...api.Code) bool {
	var code api.Code
	return err == nil || errors.As(err, &code) && error(code) == err && slices.Contains(codes, code)
}

// ends are numbers at the ends of what each argument may be, and of its type.
func ends() []int {
	return []int{math.MinInt, math.MinInt + 1, -65536, -2, -1, 0, 1, 2, 11, 12, 13, 23, 24, 25, 95, 96, 160, 511, 512, 65535, 65536, 65537, 1 << 32, math.MaxInt - 1, math.MaxInt}
}

// All calls at all ends of their arguments: each ends, with an error that its promise names, on cores of all kinds.
func TestAllArgumentsAtTheirEnds(t *testing.T) {
	for _, d := range []*disk{newDisk(t), withBad(t, 2), worn(t)} {
		for _, a := range ends() {
			if err := d.core.Put(a, text(1, 1)); !isOne(err, api.ErrArg, api.ErrWornOut) {
				t.Errorf("Put(%d): %v", a, err)
			}
			if _, err := d.core.Get(a); !isOne(err, api.ErrArg) {
				t.Errorf("Get(%d): %v", a, err)
			}
			if err := d.core.Trim(a); !isOne(err, api.ErrArg, api.ErrWornOut) {
				t.Errorf("Trim(%d): %v", a, err)
			}
			for _, retire := range []bool{false, true} {
				if err := d.core.Vacate(a, retire); !isOne(err, api.ErrArg, api.ErrState, api.ErrWornOut) {
					t.Errorf("Vacate(%d, %v): %v", a, retire, err)
				}
			}
			if err := d.core.Seen(slices.Repeat([]int{a}, 12)); err != nil {
				t.Errorf("Seen of twelve %d: %v", a, err)
			}
			if err := d.core.Tend(); err != nil {
				t.Errorf("Tend(): %v", err)
			}
		}
		for _, many := range []int{0, 1, 159, 160, 161, 174, 100000} {
			if err := d.core.Put(3, make([]byte, many)); !isOne(err, api.ErrArg, api.ErrWornOut) || many != 160 && err != api.ErrArg {
				t.Errorf("Put of %d bytes: %v", many, err)
			}
		}
	}
}

// wild is a list of tags that no chip need have: of any place, twice at one, of numbers and seqs that may not be.
func (s *source) wild() []api.Found {
	var l []api.Found
	for range s.below(60) {
		place := s.below(100) - 2
		f := found(place, s.below(27)-1, int64(s.below(30))-1, s.below(258)-1)
		f.Tag.Place = s.below(100)
		f.Tag.Lost = s.below(2) == 0
		if s.below(10) == 0 {
			f.Tag.Seq = maxSeq - int64(s.below(3)) + 1
		}
		l = append(l, f)
	}
	return l
}

// Cores of tags that lie nowhere on their chip, with few blocks free or none, or on a chip on which other things lie: every call ends, none panics, each answers an error that its promise names.
func TestCoresOfAnyTags(t *testing.T) {
	t.Parallel()
	s := source(61)
	cores := 0
	for turn := range 1200 {
		chip := nand.New()
		if turn%3 == 0 {
			d := &disk{T: t, chip: chip}
			d.core = begun(t, chip, api.Checkpoint{}, nil)
			for of := range 24 {
				d.quick(of, of)
			}
		}
		l := s.wild()
		if turn%2 == 0 {
			for of := range 24 {
				l = append(l, found(of%12*8+of/12, of, 50, 0))
			}
		}
		core, err := move.New(chip, s.checkpoint(turn%4), l)
		if err != nil && (err != api.ErrArg || core != nil) {
			t.Fatalf("New: %v, %v", core, err)
		}
		if err != nil {
			continue
		}
		cores++
		for range 25 {
			s.anyCall(t, core)
		}
	}
	if cores < 200 {
		t.Errorf("only %d cores", cores)
	}
}

// anyCall is a call of any kind, of a core that may be of any kind.
func (s *source) anyCall(t *testing.T, core *move.Core) {
	t.Helper()
	of := s.below(24)
	var err error
	may := []api.Code{api.ErrWornOut}
	switch s.below(8) {
	case 0:
		may = []api.Code{api.ErrMedia}
		_, err = core.Get(of)
	case 1:
		err = core.Trim(of)
	case 2:
		err = core.Note()
	case 3:
		may = append(may, api.ErrState)
		err = core.Vacate(s.below(12), s.below(3) == 0)
	case 4:
		may = nil
		err = core.Tend()
	case 5:
		may = nil
		if s.below(4) == 0 {
			err = core.Clean()
		}
	default:
		err = core.Put(of, text(of, 1))
		if got, wrong := core.Get(of); err == nil && (wrong != nil || !bytes.Equal(got, text(of, 1))) {
			t.Fatalf("Get(%d) behind Put: %v, %v", of, got, wrong)
		}
	}
	if !isOne(err, may...) {
		t.Fatalf("an error that no promise names: %v", err)
	}
	core.View()
}

// The tags that are handed to New stay as they are, with what stands behind them; and the caller may change them later.
func TestTagsAreNeitherChangedNorKept(t *testing.T) {
	d := newDisk(t)
	d.fill(0)
	d.trim(3)
	g := seen(t, d.chip)
	room := append(slices.Clone(g.tags), found(95, 24, 1000, 0), found(94, 24, 1000, 0))
	was := slices.Clone(room)
	d.core, d.counted = begun(t, d.chip, g.point, room[:len(g.tags)]), false
	d.clean()
	for turn := range 30 {
		d.put(turn%24, turn)
		d.vacate(d.open(), false)
	}
	if !slices.Equal(room, was) {
		t.Fatal("the tags were changed")
	}
	d.core = begun(t, d.chip, seen(t, d.chip).point, seen(t, d.chip).tags)
	other := seen(t, d.chip).tags
	core := begun(t, d.chip, seen(t, d.chip).point, other)
	clear(other[:cap(other)])
	if core.View() != d.view() {
		t.Error("the tags were kept")
	}
	core.Clean()
	d.core = core
	d.wantRest()
	d.wantAll()
}

func TestSeenListIsNeitherChangedNorKept(t *testing.T) {
	d := newDisk(t)
	d.counted = false
	list := []int{1, -2, 3, 70000, 5, 6, 7, 8, 9, 10, 11, 12, 13, 14}
	was := slices.Clone(list)
	if err := d.core.Seen(list[:12]); err != nil || !slices.Equal(list, was) {
		t.Fatalf("Seen: %v, the list is %v", err, list)
	}
	v := d.view()
	clear(list)
	if d.view() != v {
		t.Error("the list was kept")
	}
}

// What is put stays as it is, with its spare room, also where it is refused; it may be changed later, though its page is moved.
func TestBytesAreNeitherChangedNorKept(t *testing.T) {
	d := newDisk(t)
	for of := range 24 {
		room := append(text(of, 3), 1, 2, 3, 4, 5, 6, 7, 8, 9, 10, 11, 12, 13, 14, 15)
		was := slices.Clone(room)
		if err := d.core.Put(of, room[:160]); err != nil {
			t.Fatal(err)
		}
		if d.core.Put(of, room) != api.ErrArg || d.core.Put(24, room[:160]) != api.ErrArg {
			t.Fatal("what may not be is put")
		}
		if !bytes.Equal(room, was) {
			t.Fatal("the bytes were changed")
		}
		d.want[of] = was[:160]
		clear(room)
		d.wantRest()
	}
	d.vacate(2, false)
	d.wantAll()
}

// What Get answers may be changed, its spare room too: no later answer is changed by it.
func TestAnswersAreTheCallersOwn(t *testing.T) {
	d := newDisk(t)
	d.put(3, 1)
	for _, of := range []int{3, 4} {
		first, _ := d.core.Get(of)
		second, _ := d.core.Get(of)
		all := first[:cap(first)]
		for i := range all {
			all[i] ^= 0xff
		}
		if !bytes.Equal(second, d.bytesOf(of)) {
			t.Error("two answers share memory")
		}
		d.wantGet(of)
	}
	v := d.view()
	was := v
	v.States[0], v.Live[3], v.Reads[0], v.Scores[0] = 7, 7, 7, 7
	if d.view() != was {
		t.Error("a view shares memory")
	}
	d.vacate(0, false)
	d.wantAll()
}

// The same calls on two chips answer the same, and what is done to one is not seen by the other, however they are mixed.
func TestTwoCoresDontTouchEachOther(t *testing.T) {
	alone := newDisk(t)
	mixed, other := newDisk(t), newDisk(t)
	s1, s2, s3 := source(71), source(71), source(72)
	for turn := range 300 {
		if turn == 100 {
			alone.chip.FailProgram(3, 2)
			mixed.chip.FailProgram(3, 2)
		}
		alone.turn(&s1, turn)
		mixed.turn(&s2, turn)
		if turn%3 == 0 {
			other.decay(&s3)
			other.chip.FailErase(s3.below(12))
		}
		other.turn(&s3, turn+1000)
		if alone.view() != mixed.view() {
			t.Fatalf("turn %d: %+v and %+v", turn, alone.view(), mixed.view())
		}
	}
	for place := range 96 {
		for chunk := range 4 {
			a, _, _ := alone.chip.Truth(place, chunk)
			b, _, _ := mixed.chip.Truth(place, chunk)
			if !bytes.Equal(a, b) {
				t.Fatalf("the chunk %d of the page %d is another", chunk, place)
			}
		}
	}
	alone.wantAll()
	mixed.wantAll()
	other.wantAll()
}

// The chip is the same one from then on: what is done to it by others is seen.
func TestTheChipIsKept(t *testing.T) {
	d := newDisk(t)
	d.put(3, 1)
	d.hurt(1, 0, 3)
	d.lost[3] = true
	d.wantGet(3)
	d.hurt(1, 0, 3) // turned back
	d.lost[3] = false
	d.wantGet(3)
}

// View changes nothing, and tells the same twice.
func TestViewChangesNothing(t *testing.T) {
	for _, d := range []*disk{newDisk(t), withBad(t, 1), worn(t)} {
		d.wantQuiet(func() {
			for range 3 {
				d.view()
			}
		})
	}
}
