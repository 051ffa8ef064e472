package media_test

import (
	"bytes"
	"fmt"
	"math"
	"testing"

	"patina/api"
	"patina/media"
	"patina/nand"
)

// P8.2: Read, and what a page is read as.

func TestReadAtTheEnds(t *testing.T) {
	for name, c := range stands(t) {
		m := media.New(c)
		for _, at := range []int{-1, 96, math.MinInt, math.MaxInt} {
			wantNoRead(t, m, at, api.ErrArg)
		}
		before := see(t, c)
		for _, at := range outside(all) {
			wantNoRead(t, m, at, api.ErrArg)
		}
		wantSight(t, name+": a Read of no page", c, before)
		wantReads(t, m, 0)
		for n, at := range []int{0, 95} {
			if !c.On() {
				wantNoRead(t, m, at, api.ErrPower)
				continue
			}
			wantAsItLies(t, name, m, c, at)
			wantReads(t, m, n+1)
		}
		if !c.On() {
			wantSight(t, name+": a Read without power", c, before)
			wantReads(t, m, 0)
		}
	}
}

// wantAsItLies holds what a page is read as against the chip's own bytes.
func wantAsItLies(t *testing.T, what string, m *media.Media, c *nand.Chip, at int) {
	t.Helper()
	raw, err := c.Clone().Read(at)
	must(t, err)
	got, err := m.Read(at)
	if want := readAs(at, raw); !samePage(got, want) || err != nil {
		t.Errorf("%s: Read(%d): %+v, %v, want %+v", what, at, got, err, want)
	}
}

func TestReadOfEveryPage(t *testing.T) {
	for name, c := range stands(t) {
		if !c.On() {
			c.Power()
		}
		m := media.New(c)
		for at := range all {
			wantAsItLies(t, name, m, c, at)
		}
		wantReads(t, m, all)
	}
}

func TestReadOfNewAndErasedPages(t *testing.T) {
	c := nand.New()
	m := media.New(c)
	s := source(20)
	for at := range all {
		wantRead(t, m, at, api.Page{})
		wantProgram(t, m, at, s.tag(at), s.data(), nil)
	}
	for b := range blocks {
		must(t, c.Erase(b))
	}
	for at := range all {
		wantRead(t, m, at, api.Page{})
	}
}

// Pages of which some chunks are programmed and some are not, in all ways.
func TestReadOfPagesProgrammedInPart(t *testing.T) {
	s := source(21)
	for at := range all {
		for set := range 1 << chunks {
			c := nand.New()
			m := media.New(c)
			data, g := s.data(), s.tag(at)
			for i, chunk := range laid(data, g) {
				if set>>i&1 == 1 {
					must(t, c.Write(at, i, chunk))
				}
			}
			var want api.Page
			if set>>tagChunk == 1 {
				want.Tagged, want.Tag = true, g
			}
			if set == 1<<chunks-1 {
				want = whole(g, data, 0)
			}
			wantRead(t, m, at, want)
		}
	}
}

// fourth is a page whose data are whole, and whose fourth chunk is given.
func fourth(t *testing.T, at int, data, chunk []byte) *nand.Chip {
	t.Helper()
	c := nand.New()
	write(t, c, at, laid(data, api.Tag{}), 3)
	must(t, c.Write(at, 3, chunk))
	return c
}

// wantUntagged holds that a page is told as nobody's, with and without damage of each of its chunks.
func wantUntagged(t *testing.T, what string, c *nand.Chip, at int) {
	t.Helper()
	for chunk := range chunks {
		for damage := range 3 {
			d := c.Clone()
			s := source(chunk*10 + damage)
			s.harm(t, d, at, chunk, damage)
			m := media.New(d)
			if got, err := m.Read(at); !samePage(got, api.Page{Damage: damage}) || got.Data != nil || err != nil {
				t.Errorf("%s: Read(%d): %+v, %v, want damage %d alone", what, at, got, err, damage)
			}
		}
	}
}

func TestReadWithoutTheMark(t *testing.T) {
	s := source(22)
	for _, at := range []int{0, 5, 6, 7, 50, 95} {
		data, body := s.data(), bodyOf(s.tag(at))
		wantUntagged(t, "noughts", fourth(t, at, data, make([]byte, wordSize)), at)
		wantUntagged(t, "any message", fourth(t, at, data, codeword(s.bytes(messageSize))), at)
		for i := range len(theMark) {
			message := append(bytes.Clone(body), theMark...)
			message[bodySize+i] ^= byte(1 + s.next(255))
			wantUntagged(t, "a mark with one byte turned", fourth(t, at, data, codeword(message)), at)
		}
	}
}

// Bodies that are no tag's that may be, each wrong in one thing alone, but for its place.
func TestReadOfBodiesThatAreNoTags(t *testing.T) {
	s := source(23)
	good := api.Tag{Place: 13, Of: 7, Seq: 0x0102030405, Copy: 9}
	at := good.Place
	wrong := map[string]api.Tag{
		"a seq of 0": {Place: at, Of: 7, Copy: 9},
		"Of 25":      {Place: at, Of: 25, Seq: 5, Copy: 9},
		"Of 255":     {Place: at, Of: 255, Seq: 5, Copy: 9},
		"Point lost": {Place: at, Of: point, Seq: 5, Lost: true},
	}
	for what, g := range wrong {
		wantUntagged(t, what, fourth(t, at, s.data(), tagWord(bodyOf(g))), at)
	}
	for _, place := range []int{6, 7, 94, 95} {
		g := api.Tag{Place: place, Of: 0, Seq: 1}
		wantUntagged(t, "a sector where none may lie", fourth(t, place, s.data(), tagWord(bodyOf(g))), place)
	}
	for i := 9; i < bodySize; i++ {
		body := bodyOf(good)
		body[i] = byte(2 + s.next(254))
		wantUntagged(t, fmt.Sprintf("the body's byte %d", i), fourth(t, at, s.data(), tagWord(body)), at)
	}
	wantUntagged(t, "noughts and the mark", fourth(t, 0, s.data(), tagWord(make([]byte, bodySize))), 0)
	wantUntagged(t, "ff and the mark", fourth(t, 95, s.data(), tagWord(ones(bodySize))), 95)
	data := s.data()
	wantRead(t, media.New(fourth(t, at, data, tagWord(bodyOf(good)))), at, whole(good, data, 0))
}

// A tag of another page counts as none, whichever two pages they are.
func TestReadOfAnotherPagesTag(t *testing.T) {
	s := source(24)
	data := s.data()
	for place := range all {
		g := s.tag(place)
		c := nand.New()
		m := media.New(c)
		for at := range all {
			write(t, c, at, laid(data, g), chunks)
			want := api.Page{}
			if at == place {
				want = whole(g, data, 0)
			}
			wantRead(t, m, at, want)
		}
	}
	wantUntagged(t, "the next page's tag", fourth(t, 8, data, tagWord(bodyOf(api.Tag{Place: 9, Seq: 1}))), 8)
	wantUntagged(t, "a place beyond the end", fourth(t, 0, data, tagWord(bodyOf(api.Tag{Place: 96, Of: point, Seq: 1}))), 0)
	wantUntagged(t, "a place that is another by a byte", fourth(t, 3, data, tagWord(bodyOf(api.Tag{Place: 256 + 3, Seq: 1}))), 3)
}

// Tags of all kinds, at the ends of their fields, told whole.
func TestReadTellsTheTag(t *testing.T) {
	s := source(25)
	for at := range all {
		for _, g := range tagsOf(at) {
			data := s.data()
			c := nand.New()
			write(t, c, at, laid(data, g), chunks)
			wantRead(t, media.New(c), at, whole(g, data, 0))
		}
	}
}

// tagsOf are tags that may be, of a page, at the ends of their fields.
func tagsOf(at int) []api.Tag {
	var out []api.Tag
	for _, of := range []int{0, 23, 24} {
		for _, seq := range []int64{1, 258, maxSeq} {
			for _, again := range []int{0, 255} {
				for _, lost := range []bool{false, true} {
					if g := (api.Tag{Place: at, Of: of, Seq: seq, Copy: again, Lost: lost}); mayBe(g) {
						out = append(out, g)
					}
				}
			}
		}
	}
	return out
}

// Damage is the most of those codewords that can be read, whichever these are: 0 to 2 of each chunk are read, 3 and 4 are not.
func TestDamageOfWhatCanBeRead(t *testing.T) {
	s := source(26)
	for n := range 625 {
		turned := [chunks]int{n % 5, n / 5 % 5, n / 25 % 5, n / 125}
		at := s.next(all)
		data, g := s.data(), s.tag(at)
		c := nand.New()
		m := media.New(c)
		wantProgram(t, m, at, g, data, nil)
		for chunk, k := range turned {
			s.harm(t, c, at, chunk, k)
		}
		wantRead(t, m, at, decayed(g, data, turned))
	}
}

// decayed is what a page is read as that was programmed so, with 0 to 4 bytes turned in each of its chunks.
func decayed(g api.Tag, data []byte, turned [chunks]int) api.Page {
	var want api.Page
	read := 0
	for chunk, k := range turned {
		if k > 2 {
			continue
		}
		want.Damage = max(want.Damage, k)
		if chunk < tagChunk {
			read++
		}
	}
	if turned[tagChunk] <= 2 {
		want.Tagged, want.Tag = true, g
		if read == 3 {
			want.Sound, want.Data = true, data
		}
	}
	return want
}

// With no codeword that can be read there is no damage to tell.
func TestDamageOfNothingThatCanBeRead(t *testing.T) {
	s := source(27)
	for _, k := range []int{3, 4} {
		for at := range all {
			c := nand.New()
			m := media.New(c)
			wantProgram(t, m, at, s.tag(at), s.data(), nil)
			for chunk := range chunks {
				s.harm(t, c, at, chunk, k)
			}
			wantRead(t, m, at, api.Page{})
		}
	}
}

// Damage counts beside a tag that is none: marks and forms are not looked at for it.
func TestDamageBesideNoTag(t *testing.T) {
	s := source(28)
	for what, chunk := range map[string][]byte{
		"no mark":            make([]byte, wordSize),
		"no tag":             tagWord(ones(bodySize)),
		"another page's tag": tagWord(bodyOf(api.Tag{Place: 5, Seq: 1})),
	} {
		for n := range 625 {
			turned := [chunks]int{n % 5, n / 5 % 5, n / 25 % 5, n / 125}
			c := fourth(t, 4, s.data(), chunk)
			want := 0
			for i, k := range turned {
				s.harm(t, c, 4, i, k)
				if k <= 2 {
					want = max(want, k)
				}
			}
			if got, err := media.New(c).Read(4); !samePage(got, api.Page{Damage: want}) || err != nil {
				t.Fatalf("%s, %d turned: %+v, %v, want damage %d alone", what, turned, got, err, want)
			}
		}
	}
}

// Any bytes in any chunks are read as the chapters tell, which is mostly nothing.
func TestReadOfAnyBytes(t *testing.T) {
	s := source(29)
	c := nand.New()
	m := media.New(c)
	for n := range 4 * all {
		at := n % all
		if at%pages == 0 && n >= all {
			must(t, c.Erase(at/pages))
		}
		for i, chunk := range laid(s.data(), s.tag(at)) {
			if s.next(4) == 0 {
				chunk = s.bytes(wordSize)
			}
			must(t, c.Write(at, i, chunk))
			s.harm(t, c, at, i, s.next(8))
		}
		wantAsItLies(t, "any bytes", m, c, at)
	}
}
