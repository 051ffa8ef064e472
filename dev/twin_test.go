package dev_test

import (
	"bytes"
	"testing"

	"patina/api"
	"patina/dev"
	"patina/mount"
	"patina/move"
	"patina/nand"
)

// P19.3 to P19.7: a device beside a core on a chip that stands alike, to which the same harm is done: what the core answers is answered, and what Tend does behind each call is done.

type twin struct {
	*testing.T
	chip, other *nand.Chip
	dev         *dev.Device
	core        *move.Core // nil: it isn't mounted
	told        map[error]int
}

func newTwin(t *testing.T, chip *nand.Chip) *twin {
	t.Helper()
	device, err := dev.New(chip)
	if err != nil {
		t.Fatal(err)
	}
	return &twin{T: t, chip: chip, other: chip.Clone(), dev: device, told: map[error]int{}}
}

// harm does the same to both chips.
func (w *twin) harm(do func(c *nand.Chip)) {
	do(w.chip)
	do(w.other)
}

// mount mounts both.
func (w *twin) mount() {
	w.Helper()
	core, want := mount.Mount(w.other)
	if err := w.dev.Mount(); err != want {
		w.Fatalf("Mount(): %v, want %v", err, want)
	}
	w.core = core
	w.wantAlike("Mount")
}

// tended is what is to be answered, of what the core's own call answered.
func (w *twin) tended(err error) error {
	if err != api.ErrPower && w.core.Tend() == api.ErrPower {
		err = api.ErrPower
	}
	if err == api.ErrPower {
		w.core = nil
	}
	return err
}

// read, write and trim do the same call of both.
func (w *twin) read(of int) {
	w.Helper()
	want, first := w.core.Get(of)
	wrong := w.tended(first)
	if wrong != nil {
		want = nil
	}
	got, err := w.dev.Read(of)
	if err != wrong || !bytes.Equal(got, want) || err != nil && got != nil {
		w.Fatalf("Read(%d): %v, %v, want %v, %v", of, got, err, want, wrong)
	}
	w.told[err]++
	w.wantAlike("Read")
}

func (w *twin) write(of int, b []byte) {
	w.Helper()
	want := w.tended(w.core.Put(of, b))
	if err := w.dev.Write(of, b); err != want {
		w.Fatalf("Write(%d): %v, want %v", of, err, want)
	}
	w.told[want]++
	w.wantAlike("Write")
}

func (w *twin) trim(of int) {
	w.Helper()
	want := w.tended(w.core.Trim(of))
	if err := w.dev.Trim(of); err != want {
		w.Fatalf("Trim(%d): %v, want %v", of, err, want)
	}
	w.told[want]++
	w.wantAlike("Trim")
}

// wantAlike holds both to stand alike.
func (w *twin) wantAlike(call string) {
	w.Helper()
	wantSameChip(w.T, w.chip, w.other)
	v, err := w.dev.Report()
	if w.core == nil {
		if v != (api.View{}) || err != api.ErrNotMounted {
			w.Fatalf("Report() behind %s: %+v, %v", call, v, err)
		}
		return
	}
	if v != w.core.View() || err != nil {
		w.Fatalf("Report() behind %s: %+v, %v, want %+v", call, v, err, w.core.View())
	}
}

// turn is a call of any kind.
func (w *twin) turn(s *source, turn int) {
	w.Helper()
	of := s.below(24)
	switch kind := s.below(8); {
	case kind < 4:
		w.read(of)
	case kind < 5:
		w.trim(of)
	default:
		w.write(of, text(of, turn))
	}
}

// Whatever is done to the chip, more than it bears as well: the device is the core, call by call.
func TestTheDeviceIsTheCore(t *testing.T) {
	t.Parallel()
	told := map[error]int{}
	for start := range 12 {
		s := source(start)
		w := newTwin(t, nand.New())
		for turn := range 150 {
			if start%3 > 0 && s.below(2) == 0 {
				place, bit := s.below(96), s.below(2048)
				w.harm(func(c *nand.Chip) { c.Flip(place, bit) })
			}
			if start%4 > 0 && s.below(40) == 0 {
				block, after := s.below(12), s.below(20)
				w.harm(func(c *nand.Chip) { c.FailProgram(block, after) })
			}
			if start%2 > 0 && s.below(12) == 0 {
				budget := s.below(20)
				w.harm(func(c *nand.Chip) { c.Cut(budget) })
			}
			if w.core == nil {
				w.mount()
			}
			if w.core == nil {
				w.harm(func(c *nand.Chip) { c.Power() })
				continue
			}
			w.turn(&s, turn)
		}
		for err, many := range w.told {
			told[err] += many
		}
	}
	for _, err := range []error{nil, api.ErrPower, api.ErrWornOut} {
		if told[err] < 20 {
			t.Errorf("%v was answered %d times", err, told[err])
		}
	}
}

// ErrMedia is the answer, and Tend is done behind it: what was read is moved in the same call.
func TestErrMediaIsAnsweredAndTended(t *testing.T) {
	w := newTwin(t, nand.New())
	w.mount()
	for of := range 24 {
		w.write(of, text(of, of))
	}
	for of := range 24 {
		place := w.core.View().Live[of]
		w.harm(func(c *nand.Chip) {
			for i := range 3 {
				c.Flip(place, 512*(of%3)+8*i)
			}
		})
		ahead := w.core.View()
		w.read(of)
		v := w.core.View()
		if v.Cursor != (ahead.Cursor+8)%96 || v.Live[of] == place {
			t.Fatalf("Report() was %+v, and is %+v", ahead, v)
		}
		w.read(of)
	}
	if w.told[api.ErrMedia] != 48 {
		t.Errorf("ErrMedia was answered %d times", w.told[api.ErrMedia])
	}
}

// ErrWornOut is the answer, and Tend is done behind it: the patrol goes on.
func TestErrWornOutIsAnsweredAndTended(t *testing.T) {
	w := newTwin(t, nand.New())
	w.mount()
	for of := range 24 {
		w.write(of, text(of, of))
	}
	w.harm(func(c *nand.Chip) {
		for block := range 12 {
			c.FailProgram(block, 0)
		}
	})
	for turn := range 40 {
		ahead := w.core.View()
		if turn%2 == 0 {
			w.write(turn%24, text(turn, 7))
		} else {
			w.trim(turn % 24)
		}
		if v := w.core.View(); v.Cursor != (ahead.Cursor+8)%96 || v.Reads == ahead.Reads {
			t.Fatalf("Report() was %+v, and is %+v", ahead, v)
		}
	}
	if w.told[api.ErrWornOut] != 40 {
		t.Errorf("ErrWornOut was answered %d times", w.told[api.ErrWornOut])
	}
}

// Tend is done behind each call, once: eight pages are read beside what the call itself reads, whatever it is.
func TestTendIsDoneOnce(t *testing.T) {
	w := newTwin(t, nand.New())
	w.mount()
	for turn := range 30 {
		of := turn % 24
		w.write(of, text(of, turn))
		w.read(of)
		w.read((of + 1) % 24)
		w.trim((of + 9) % 24)
		w.trim((of + 9) % 24)
		if v := w.core.View(); v.Cursor != 8*5*(turn+1)%96 {
			t.Fatalf("turn %d: the cursor is %d", turn, v.Cursor)
		}
	}
}
