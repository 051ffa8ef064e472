package world_test

import (
	"testing"

	"patina/api"
	"patina/field"
	"patina/frame"
	"patina/nand"
	"patina/point"
	"patina/tag"
	"patina/world"
)

// P22.3: Broken.

// edgeOf turns bytes of a page's chunk, by a step each, until the world is Broken, and tells how many that took; 65: all of them, and it isn't.
func edgeOf(w *world.World, place, chunk int) int {
	for i := range 64 {
		w.Do(flipOf(place, chunk, i))
		if w.Look().Broken {
			return i + 1
		}
	}
	return 65
}

// wantEdges holds the edges of a page's four chunks, each in a world of its own.
func wantEdges(t *testing.T, name string, make func() *world.World, place int, want [4]int) {
	t.Helper()
	for chunk := range 4 {
		w := make()
		if w.Look().Broken {
			t.Fatalf("%s: it is broken", name)
		}
		if got := edgeOf(w, place, chunk); got != want[chunk] {
			t.Errorf("%s: the page %d, its chunk %d: broken at %d, want %d", name, place, chunk, got, want[chunk])
		}
	}
}

// What the pages of each kind bear: one more of a tag's chunk is too much, of the checkpoint one more of any.
var (
	counts = [4]int{65, 65, 65, 3}
	points = [4]int{3, 3, 3, 3}
	idle   = [4]int{65, 65, 65, 5}
)

func TestBroken(t *testing.T) {
	t.Parallel()
	for name, c := range map[string]struct {
		steps []api.Step
		want  map[int][4]int
	}{
		"a new chip": {nil, map[int][4]int{0: idle, 1: idle, 95: idle}},
		"a chip that is mounted": {
			[]api.Step{step(4)},
			map[int][4]int{0: points, 1: idle, 7: idle, 8: idle, 95: idle},
		},
		"a sector": {
			[]api.Step{step(4), step(2, 3, 3)},
			map[int][4]int{0: points, 1: counts, 2: idle},
		},
		"a sector that was written again": {
			[]api.Step{step(4), step(2, 3, 3), step(2, 3, 4)},
			map[int][4]int{0: points, 1: idle, 2: counts},
		},
		"a sector that was trimmed": {
			[]api.Step{step(4), step(2, 3, 3), step(3, 3)},
			map[int][4]int{0: idle, 1: idle, 2: points},
		},
		"a page that was cut off": {
			[]api.Step{step(4), step(2, 3, 3), step(9, 3), step(2, 3, 4), step(10)},
			map[int][4]int{0: points, 1: counts, 2: idle},
		},
		"a page that was cut off behind its tag": {
			[]api.Step{step(4), step(2, 3, 3), step(9, 4), step(2, 3, 4), step(2, 4, 4), step(10)},
			map[int][4]int{0: points, 1: idle, 2: counts, 3: idle},
		},
		"a block that is bad": {
			[]api.Step{step(4), step(2, 3, 3), step(7, 0, 0), step(2, 4, 4)},
			map[int][4]int{0: idle, 1: idle, 2: idle, 8: counts, 9: points, 10: counts},
		},
		"a move that was cut off": {
			[]api.Step{step(4), step(2, 3, 3), step(6, 1, 0), step(6, 1, 8), step(9, 6), step(1, 3), step(10)},
			map[int][4]int{0: points, 1: counts, 8: idle, 9: idle},
		},
		"a move that was cut off ahead of its end": {
			[]api.Step{step(4), step(2, 3, 3), step(6, 1, 0), step(6, 1, 8), step(9, 8), step(1, 3), step(10)},
			map[int][4]int{0: points, 1: counts, 8: idle, 9: idle},
		},
		"a move that was done": {
			[]api.Step{step(4), step(2, 3, 3), step(6, 1, 0), step(6, 1, 8), step(1, 3)},
			map[int][4]int{0: idle, 1: idle, 8: points, 9: counts},
		},
	} {
		t.Run(name, func(t *testing.T) {
			t.Parallel()
			for place, want := range c.want {
				wantEdges(t, name, func() *world.World {
					w := world.New()
					w.Run(c.steps)
					return w
				}, place, want)
			}
		})
	}
}

// mixed are steps behind which pages lie on the chip in each way that there is: erased, cut off, passed over by a write or a trim, copied, bad, elder checkpoints, and what counts.
func mixed(t *testing.T) []api.Step {
	t.Helper()
	s := mounted(t)
	for of := range 14 {
		s.must(step(2, of, of))
	}
	for of := range 6 {
		s.must(step(2, 2*of, 30+of))
	}
	s.must(step(3, 6))
	v := s.view()
	s.must(step(7, v.Live[9]/8, 0))
	s.must(step(8, v.Live[9]/8))
	s.hurt(v.Live[9], 1, 2)
	s.must(step(1, 9))
	s.must(step(3, 7))
	s.must(step(9, 2))
	s.want(step(2, 20, 20), api.ErrPower)
	s.restart()
	s.must(step(2, 21, 21))
	s.hurt(s.view().Live[13], 0, 2)
	s.must(step(9, 9))
	s.want(step(1, 13), api.ErrPower)
	s.must(step(10))
	if s.look.Broken || s.look.Worn {
		t.Fatalf("Look: %+v", s.look)
	}
	return s.done
}

// behind is a world behind steps.
func behind(steps []api.Step) *world.World {
	w := world.New()
	w.Run(steps)
	return w
}

// Each page of a chip on which everything lies: its tag bears two or four turned bytes, the checkpoint's chunks two, and not one more.
func TestBrokenAtEachPage(t *testing.T) {
	t.Parallel()
	steps := mixed(t)
	g := seen(behind(steps).Chip())
	ways := map[int]int{}
	for place := range 96 {
		for chunk := range 4 {
			want := g.breaks(place, chunk)
			if want == 65 {
				continue
			}
			if got := edgeOf(behind(steps), place, chunk); got != want {
				t.Fatalf("the page %d, its chunk %d: broken at %d, want %d", place, chunk, got, want)
			}
			ways[want]++
		}
	}
	if ways[3] < 14 || ways[5] < 60 {
		t.Errorf("the edges were %v", ways)
	}
}

// All that is borne at once: it isn't Broken, and each sector is Whole.
func TestAllThatIsBorne(t *testing.T) {
	t.Parallel()
	w := behind(mixed(t))
	g := seen(w.Chip())
	for place := range 96 {
		for chunk := range 4 {
			for i := range min(g.bears(place, chunk), 7) - worstOf(w.Chip(), place, chunk) {
				w.Do(flipOf(place, chunk, i+20))
			}
		}
	}
	if l := w.Look(); l != (api.Look{On: true}) {
		t.Errorf("Look: %+v", l)
	}
	if r := w.Do(step(4)); r.Code != 0 || w.Look() != (api.Look{On: true, Mounted: true}) {
		t.Errorf("mount: %v, %+v", r, w.Look())
	}
}

// It is the bytes of one chunk that count, not the bits, nor those of several chunks; and what was turned back was turned.
func TestWhatIsCountedForBroken(t *testing.T) {
	sector := []api.Step{step(4), step(2, 3, 3)}
	w := behind(sector)
	for bit := range 16 {
		w.Do(step(6, 1, 1536+bit))
	}
	for chunk := range 3 {
		for i := range 2 {
			w.Do(flipOf(0, chunk, i))
		}
	}
	if w.Look().Broken {
		t.Error("two bytes of a chunk are too much")
	}
	// The bits of two bytes are turned back, one by one, and others instead: at no time are there three.
	for bit := range 8 {
		w.Do(step(6, 1, 1536+bit))
	}
	w.Do(step(6, 1, 1600))
	if w.Look().Broken {
		t.Error("two bytes of a chunk are too much")
	}
	w.Do(step(6, 1, 1700))
	if !w.Look().Broken {
		t.Error("three bytes of a tag are not too much")
	}
	// By others turned and turned back ahead of the next step: its worst tells it.
	w = behind(sector)
	turn(w.Chip(), 1, 3, 3)
	turn(w.Chip(), 1, 3, 3)
	w.Do(step(5))
	if damageOf(w.Chip(), 1) != 0 || !w.Look().Broken {
		t.Error("three bytes that were turned back are not too much")
	}
}

// Broken stays, whatever follows: the bytes are turned back, their block is erased, the power goes, all is mounted and written anew.
func TestBrokenStays(t *testing.T) {
	for _, harm := range [][2]int{{0, 0}, {1, 3}, {90, 3}} {
		w := behind([]api.Step{step(4), step(2, 3, 3)})
		many := edgeOf(w, harm[0], harm[1])
		for i := range many {
			w.Do(flipOf(harm[0], harm[1], i))
		}
		for block := range 12 {
			w.Chip().Erase(block)
		}
		steps := []api.Step{step(5), step(9, 0), step(2, 3, 4), step(10), step(4), step(2, 3, 5), step(1, 3), step(3, 3), step(11)}
		for _, e := range w.Run(steps) {
			if !e.Look.Broken {
				t.Errorf("behind %v it isn't Broken any more", e.Step)
			}
		}
		if g := seen(w.Chip()); isBroken(w.Chip(), g) {
			t.Error("the chip isn't as new")
		}
	}
}

// P22.3: the truth, the founds, the checkpoint. Pages are laid on the chip by others, and a step follows.

// page is a page as it was programmed: each of its chunks, or none.
type page [4][]byte

// laid is a page of a tag and data.
func laid(t *testing.T, of api.Tag, data []byte) page {
	t.Helper()
	body, err := tag.Encode(of)
	if err != nil {
		t.Fatal(err)
	}
	return framed(t, data, body)
}

// framed is a page of a body, whatever it is, and data.
func framed(t *testing.T, data, body []byte) page {
	t.Helper()
	chunks, err := frame.New().Lay(data, body)
	if err != nil {
		t.Fatal(err)
	}
	return page(chunks)
}

// pointed is a page of a checkpoint.
func pointed(t *testing.T, place int, seq int64, k api.Checkpoint) page {
	t.Helper()
	data, err := point.Write(k)
	if err != nil {
		t.Fatal(err)
	}
	return laid(t, api.Tag{Place: place, Of: 24, Seq: seq}, data)
}

// sectored is a page of a sector.
func sectored(t *testing.T, place, of int, seq int64, copied int) page {
	t.Helper()
	return laid(t, api.Tag{Place: place, Of: of, Seq: seq, Copy: copied}, make([]byte, 174))
}

// over is a world on whose chip pages lie, and behind a step.
func over(t *testing.T, pages map[int]page) *world.World {
	t.Helper()
	w := world.New()
	for place, chunks := range pages {
		program(t, w.Chip(), place, chunks)
	}
	w.Do(step(5))
	return w
}

// program programs the chunks of a page that it has.
func program(t *testing.T, chip *nand.Chip, place int, chunks page) {
	t.Helper()
	for chunk, word := range chunks {
		if word == nil {
			continue
		}
		if err := chip.Write(place, chunk, word); err != nil {
			t.Fatal(err)
		}
	}
}

// changed is a page of which something was changed ahead of its programming.
func changed(p page, how func(p *page)) page {
	for i, word := range p {
		p[i] = append([]byte(nil), word...)
	}
	how(&p)
	return p
}

// A page is found by the tag that its fourth chunk was programmed with, the codeword of a sealed body of a tag that may be, and its own: by no other one.
func TestFounds(t *testing.T) {
	t.Parallel()
	first := pointed(t, 0, 5, api.Checkpoint{Next: 5})
	data := make([]byte, 174)
	body := func(of api.Tag, how func(b []byte)) []byte {
		b, _ := tag.Encode(of)
		how(b)
		return b
	}
	own := api.Tag{Place: 17, Of: 3, Seq: 9}
	good := laid(t, own, data)
	for name, c := range map[string]struct {
		page page
		is   bool
	}{
		"its own":                     {good, true},
		"lost":                        {laid(t, api.Tag{Place: 17, Of: 3, Seq: 9, Lost: true}, data), true},
		"the greatest seq and copy":   {laid(t, api.Tag{Place: 17, Of: 23, Seq: api.MaxSeq, Copy: 255}, data), true},
		"without data":                {page{3: good[3]}, true},
		"with data of any kind":       {page{make([]byte, 64), append(make([]byte, 63), 9), nil, good[3]}, true},
		"another page's":              {laid(t, api.Tag{Place: 18, Of: 3, Seq: 9}, data), false},
		"the same of another block":   {laid(t, api.Tag{Place: 25, Of: 3, Seq: 9}, data), false},
		"without its tag's chunk":     {page{good[0], good[1], good[2], nil}, false},
		"a seq of 0":                  {framed(t, data, body(own, func(b []byte) { b[3] = 0 })), false},
		"the number 25":               {framed(t, data, body(own, func(b []byte) { b[2] = 25 })), false},
		"something behind it":         {framed(t, data, body(own, func(b []byte) { b[49] = 1 })), false},
		"neither lost nor not":        {framed(t, data, body(own, func(b []byte) { b[9] = 2 })), false},
		"another mark":                {marked(t, good, "patina02"), false},
		"no mark":                     {marked(t, good, "\x00\x00\x00\x00\x00\x00\x00\x00"), false},
		"one byte of parity is other": {changed(good, func(p *page) { p[3][63] ^= 1 }), false},
		"the first of parity is":      {changed(good, func(p *page) { p[3][58] ^= 0x80 }), false},
		"two bytes of the body are":   {changed(good, func(p *page) { p[3][20] ^= 1; p[3][40] ^= 7 }), false},
	} {
		w := func() *world.World { return over(t, map[int]page{0: first, 17: c.page}) }
		want := idle
		if c.is {
			want = counts
		}
		wantEdges(t, name, w, 17, want)
	}
}

// A word that is a codeword but for one root: its message is sealed, and it is 0 at five of the six powers. It is no codeword.
func TestFoundsByEachRoot(t *testing.T) {
	t.Parallel()
	f := field.New()
	first := pointed(t, 0, 5, api.Checkpoint{Next: 5})
	good := sectored(t, 17, 3, 9, 0)
	for root := range 6 {
		factor := []byte{1}
		for other := range 6 {
			if other != root {
				factor = f.Times(factor, []byte{1, f.Exp(other)})
			}
		}
		wrong := changed(good, func(p *page) {
			for i, symbol := range factor {
				p[3][58+i] ^= symbol
			}
		})
		values, err := codec.Syndromes(wrong[3])
		for power, value := range values {
			if err != nil || (value != 0) != (power == root) {
				t.Fatalf("the word's values are %v, %v", values, err)
			}
		}
		w := func() *world.World { return over(t, map[int]page{0: first, 17: wrong}) }
		wantEdges(t, "but for a root", w, 17, idle)
	}
}

// marked is a page whose tag's chunk is the codeword of another mark behind its body.
func marked(t *testing.T, p page, mark string) page {
	t.Helper()
	word, err := codec.Encode(append(append([]byte(nil), p[3][:50]...), mark...))
	if err != nil {
		t.Fatal(err)
	}
	p[3] = word
	return p
}

// A sector may not lie behind the sixth page of a block, a checkpoint may.
func TestFoundsByTheirPage(t *testing.T) {
	first := pointed(t, 0, 5, api.Checkpoint{Next: 5})
	for index := range 8 {
		place := 16 + index
		body, _ := tag.Encode(api.Tag{Place: 16, Of: 3, Seq: 9})
		body[0] = byte(place)
		w := over(t, map[int]page{0: first, place: framed(t, make([]byte, 174), body)})
		want := 3
		if index > 5 {
			want = 5
		}
		if got := edgeOf(w, place, 3); got != want {
			t.Errorf("a sector at %d: broken at %d, want %d", place, got, want)
		}
		w = over(t, map[int]page{0: first, place: pointed(t, place, 9, api.Checkpoint{Next: 9})})
		if got := edgeOf(w, place, index%4); got != 3 {
			t.Errorf("a checkpoint at %d: broken at %d", place, got)
		}
	}
}

// What was found by its truth is found still, however much of it is turned.
func TestFoundsByTheirTruth(t *testing.T) {
	w := behind([]api.Step{step(4), step(2, 3, 3)})
	for i := range 2 {
		w.Do(flipOf(1, 3, i))
	}
	for i := range 64 {
		w.Do(flipOf(1, 0, i))
	}
	if l := w.Look(); l.Broken || l.Marks[3] != api.Gone {
		t.Errorf("Look: %+v", l)
	}
	w.Do(flipOf(1, 3, 2))
	if l := w.Look(); !l.Broken {
		t.Errorf("Look: %+v", l)
	}
}

// The newest checkpoint tells which pages count: those above their floors that lie in no bad block. Without one nothing counts, nor if the newest isn't one.
func TestTheCheckpoint(t *testing.T) {
	t.Parallel()
	elder := pointed(t, 0, 5, api.Checkpoint{Next: 5})
	newer := pointed(t, 8, 20, api.Checkpoint{Next: 20})
	floors := api.Checkpoint{Next: 20, Floors: [24]int64{3: 9, 4: 8}}
	bad := api.Checkpoint{Next: 20, Bad: [12]bool{2: true}}
	own := api.Checkpoint{Next: 20, Bad: [12]bool{1: true}}
	at16, at17, at24 := sectored(t, 16, 3, 9, 0), sectored(t, 17, 4, 9, 0), sectored(t, 24, 3, 9, 1)
	for name, c := range map[string]struct {
		pages map[int]page
		want  map[int][4]int
	}{
		"none": {
			map[int]page{16: at16, 17: at17},
			map[int][4]int{0: idle, 16: idle, 17: idle},
		},
		"the newest": {
			map[int]page{0: elder, 8: newer, 16: at16},
			map[int][4]int{0: idle, 8: points, 16: counts},
		},
		"its floors": {
			map[int]page{0: elder, 8: pointed(t, 8, 20, floors), 16: at16, 17: at17},
			map[int][4]int{0: idle, 8: points, 16: idle, 17: counts},
		},
		"the elder one's floors": {
			map[int]page{0: pointed(t, 0, 5, floors), 8: newer, 16: at16},
			map[int][4]int{0: idle, 8: points, 16: counts},
		},
		"its bad blocks": {
			map[int]page{8: pointed(t, 8, 20, bad), 16: at16, 17: at17, 24: at24},
			map[int][4]int{8: points, 16: idle, 17: idle, 24: counts},
		},
		"its own block is bad": {
			map[int]page{0: elder, 8: pointed(t, 8, 20, own), 16: at16},
			map[int][4]int{0: points, 8: idle, 16: counts},
		},
		"the elder copy": {
			map[int]page{8: newer, 16: at16, 24: at24},
			map[int][4]int{8: points, 16: counts, 24: idle},
		},
		"the greatest seq": {
			map[int]page{8: newer, 16: at16, 24: sectored(t, 24, 3, 10, 1)},
			map[int][4]int{8: points, 16: idle, 24: counts},
		},
		"no checkpoint's data": {
			map[int]page{0: elder, 8: laid(t, api.Tag{Place: 8, Of: 24, Seq: 20}, append(make([]byte, 173), 1)), 16: at16},
			map[int][4]int{0: idle, 8: idle, 16: idle},
		},
		"a cursor that is none": {
			map[int]page{0: elder, 8: laid(t, api.Tag{Place: 8, Of: 24, Seq: 20}, cursored(96)), 16: at16},
			map[int][4]int{0: idle, 8: idle, 16: idle},
		},
		"the last cursor": {
			map[int]page{0: elder, 8: laid(t, api.Tag{Place: 8, Of: 24, Seq: 20}, cursored(95)), 16: at16},
			map[int][4]int{0: idle, 8: points, 16: counts},
		},
		"a chunk that isn't programmed": {
			map[int]page{0: elder, 8: changed(newer, func(p *page) { p[0] = nil }), 16: at16},
			map[int][4]int{0: idle, 8: idle, 16: idle},
		},
		"a chunk that is no codeword": {
			map[int]page{0: elder, 8: changed(newer, func(p *page) { p[1][60] ^= 4 }), 16: at16},
			map[int][4]int{0: idle, 8: idle, 16: idle},
		},
	} {
		t.Run(name, func(t *testing.T) {
			t.Parallel()
			for place, want := range c.want {
				wantEdges(t, name, func() *world.World { return over(t, c.pages) }, place, want)
			}
		})
	}
}

// cursored are the bytes of a checkpoint with a cursor, and nothing else.
func cursored(cursor byte) []byte {
	b := make([]byte, 174)
	b[127] = cursor
	return b
}
