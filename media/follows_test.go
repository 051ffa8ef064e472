package media_test

import (
	"testing"

	"patina/api"
	"patina/media"
	"patina/nand"
)

// P8.6: what follows.

// programmed is a chip, all of whose pages are programmed, and what each is read as.
func programmed(t *testing.T, s *source) (*nand.Chip, *media.Media, [all]api.Page) {
	t.Helper()
	c := nand.New()
	m := media.New(c)
	var want [all]api.Page
	for at := range all {
		data, g := s.data(), s.tag(at)
		wantProgram(t, m, at, g, data, nil)
		want[at] = whole(g, data, 0)
	}
	return c, m, want
}

// Every page, with 0 to 4 bytes turned in each of its codewords by itself, and the others of the chip as they were.
func TestDecayOfEachCodeword(t *testing.T) {
	s := source(60)
	for chunk := range chunks {
		for k := range 5 {
			for offset := range 3 {
				c, m, want := programmed(t, &s)
				for at := offset; at < all; at += 3 {
					s.harm(t, c, at, chunk, k)
					var turned [chunks]int
					turned[chunk] = k
					want[at] = decayed(want[at].Tag, want[at].Data, turned)
				}
				for at := range all {
					wantRead(t, m, at, want[at])
				}
			}
		}
	}
}

// Every page, with as many turned in all of its codewords.
func TestDecayOfAllCodewords(t *testing.T) {
	s := source(61)
	for k := range 5 {
		c, m, want := programmed(t, &s)
		for at := range all {
			for chunk := range chunks {
				s.harm(t, c, at, chunk, k)
			}
			wantRead(t, m, at, decayed(want[at].Tag, want[at].Data, [chunks]int{k, k, k, k}))
		}
	}
}

// Each byte of a page turned alone, in one bit and in all.
func TestDecayOfEachByte(t *testing.T) {
	s := source(62)
	c, m, want := programmed(t, &s)
	for i := range pageSize {
		at := i * 7 % all
		for _, bits := range []byte{1, 0x80, 0xff} {
			turn(t, c, at, i, bits)
			page := want[at]
			page.Damage = 1
			wantRead(t, m, at, page)
			turn(t, c, at, i, bits)
			wantRead(t, m, at, want[at])
		}
	}
}

// Bytes that are turned towards another page's are not read as that page, while no more than 4 of a codeword are.
func TestDecayTowardsAnotherPage(t *testing.T) {
	s := source(63)
	c, m, want := programmed(t, &s)
	for at := range all {
		g := want[at].Tag
		near := []api.Tag{g, g, g, g}
		near[0].Seq = g.Seq%maxSeq + 1
		near[1].Copy = (g.Copy + 1) % 256
		near[2].Of = (g.Of + 1) % 25
		near[3].Lost = !g.Lost
		for _, other := range near {
			d := c.Clone()
			mine, others := tagWord(bodyOf(g)), tagWord(bodyOf(other))
			n := 0
			for i := wordSize - 1; i >= 0; i-- {
				if mine[i] != others[i] && n < 4 {
					turn(t, d, at, tagChunk*wordSize+i, mine[i]^others[i])
					n++
					page, err := media.New(d).Read(at)
					if err != nil || page.Tagged && page.Tag != g || page.Tagged != (n <= 2) {
						t.Fatalf("Read(%d): %+v, %v, with %d bytes of %+v", at, page, err, n, other)
					}
				}
			}
			if n < 4 {
				t.Fatalf("the tags %+v and %+v are only %d apart", g, other, n)
			}
		}
		wantRead(t, m, at, want[at])
	}
}

// A tag's chunk that was not programmed is no tag's, with up to 4 bytes turned, whatever lies in the page beside it.
func TestDecayOfAnErasedTag(t *testing.T) {
	s := source(64)
	for k := range 5 {
		for n := range 3 * all {
			at := n % all
			c := nand.New()
			m := media.New(c)
			write(t, c, at, laid(s.data(), s.tag(at)), n/all+1)
			if n%2 == 0 {
				must(t, c.Write(at, tagChunk, tagWord(bodyOf(s.tag(at)))))
				must(t, c.Erase(at/pages))
			}
			s.harm(t, c, at, tagChunk, k)
			wantNotTagged(t, m, at)
			wantAsItLies(t, "an erased tag", m, c, at)
		}
	}
}

// wantNotTagged holds that a page tells nothing but its damage.
func wantNotTagged(t *testing.T, m *media.Media, at int) {
	t.Helper()
	if page, err := m.Read(at); page.Tagged || page.Tag != (api.Tag{}) || page.Sound || page.Data != nil || err != nil {
		t.Fatalf("Read(%d): %+v, %v, want no tag", at, page, err)
	}
}

// An erased chunk of which those bytes are turned that make it most like a tag.
func TestDecayOfAnErasedTagTowardsATag(t *testing.T) {
	s := source(65)
	for n := range 2000 {
		at := n % all
		c := nand.New()
		m := media.New(c)
		write(t, c, at, laid(s.data(), s.tag(at)), 3)
		word := tagWord(bodyOf(s.tag(at)))
		for _, i := range s.places(4, wordSize) {
			if n%2 == 0 {
				i = bodySize + i%(wordSize-bodySize) // in the mark and the parity alone
			}
			if damage, _, err := c.Damage(at, tagChunk); err != nil || damage == 4 {
				break
			}
			raw, err := c.Clone().Read(at)
			must(t, err)
			turn(t, c, at, tagChunk*wordSize+i, raw[tagChunk*wordSize+i]^word[i])
			wantNotTagged(t, m, at)
		}
	}
}

// An erased chunk may come near a codeword, whose damage is told; but that bears no mark.
func TestDecayOfAnErasedTagTowardsACodeword(t *testing.T) {
	word := codeword(ones(messageSize))
	c := nand.New()
	m := media.New(c)
	turned := 0
	for i := messageSize; i < wordSize && turned < 4; i++ {
		if word[i] != 0xff {
			turn(t, c, 30, tagChunk*wordSize+i, word[i]^0xff)
			turned++
		}
	}
	if turned < 4 {
		t.Fatalf("ff is %d bytes from a codeword", turned)
	}
	want := 0
	for i := messageSize; i < wordSize; i++ {
		if word[i] != 0xff {
			want++
		}
	}
	wantRead(t, m, 30, api.Page{Damage: want - turned})
}
