package tag_test

import (
	"bytes"
	"math"
	"testing"

	"patina/api"
	"patina/tag"
)

const (
	bodySize = 50
	maxSeq   = 1099511627775 // 2^40 - 1
	point    = 24
)

// number is one that a field is given, and whether the field by itself may be so.
type number struct {
	v   int64
	may bool
}

// Both ends of each field, one beyond, and such as would wrap round to one that may be if they were cut down to the field's bytes.

func places() []number {
	return []number{
		{math.MinInt, false}, {-96, false}, {-1, false}, {0, true}, {1, true}, {5, true}, {6, true}, {7, true}, {8, true},
		{93, true}, {94, true}, {95, true}, {96, false}, {97, false}, {255, false}, {256, false}, {1 << 16, false}, {1<<32 + 8, false}, {math.MaxInt, false},
	}
}

func ofs() []number {
	return []number{
		{math.MinInt, false}, {-1, false}, {0, true}, {1, true}, {23, true}, {24, true}, {25, false}, {26, false}, {255, false},
		{256, false}, {256 + 24, false}, {1<<32 + 24, false}, {math.MaxInt, false},
	}
}

func seqs() []number {
	return []number{
		{math.MinInt64, false}, {-maxSeq, false}, {-1, false}, {0, false}, {1, true}, {2, true}, {258, true}, {1 << 32, true}, {maxSeq - 1, true},
		{maxSeq, true}, {maxSeq + 1, false}, {maxSeq + 2, false}, {math.MaxInt64, false},
	}
}

func copies() []number {
	return []number{
		{math.MinInt, false}, {-256, false}, {-1, false}, {0, true}, {1, true}, {254, true}, {255, true}, {256, false}, {257, false},
		{1 << 32, false}, {math.MaxInt, false},
	}
}

// trial is a tag, and whether it may be.
type trial struct {
	tag api.Tag
	may bool
}

// trials are all tags of those numbers, with Lost and without it.
func trials() []trial {
	var out []trial
	for _, place := range places() {
		for _, of := range ofs() {
			for _, seq := range seqs() {
				for _, again := range copies() {
					for _, lost := range []bool{false, true} {
						g := api.Tag{Place: int(place.v), Of: int(of.v), Seq: seq.v, Copy: int(again.v), Lost: lost}
						each := place.may && of.may && seq.may && again.may
						out = append(out, trial{g, each && together(g)})
					}
				}
			}
		}
	}
	return out
}

// together tells whether the fields of a tag, each of which may be, may stand beside one another.
func together(g api.Tag) bool {
	if g.Of == point {
		return !g.Lost
	}
	index := g.Place
	for index >= 8 {
		index -= 8
	}
	return index != 6 && index != 7
}

// tagsThatMayBe are some of every kind.
func tagsThatMayBe() []api.Tag {
	var out []api.Tag
	for _, c := range trials() {
		if c.may {
			out = append(out, c.tag)
		}
	}
	return out
}

// bodyOf is the body of a tag, put together without the program.
func bodyOf(g api.Tag) []byte {
	b := []byte{byte(g.Place % 256), byte(g.Place / 256), byte(g.Of)}
	seq := g.Seq
	for range 5 {
		b = append(b, byte(seq%256))
		seq /= 256
	}
	b = append(b, byte(g.Copy), 0)
	if g.Lost {
		b[9] = 1
	}
	return append(b, make([]byte, 40)...)
}

// wantMay asks Check and Encode of a tag that may be.
func wantMay(t *testing.T, g api.Tag) {
	t.Helper()
	if err := tag.Check(g); err != nil {
		t.Errorf("Check(%+v): %v, want nil", g, err)
	}
	body, err := tag.Encode(g)
	if err != nil || !bytes.Equal(body, bodyOf(g)) {
		t.Errorf("Encode(%+v): % x, %v, want % x", g, body, err, bodyOf(g))
	}
}

// wantMayNot asks them of a tag that may not be.
func wantMayNot(t *testing.T, g api.Tag) {
	t.Helper()
	if err := tag.Check(g); err != api.ErrArg {
		t.Errorf("Check(%+v): %v, want ErrArg", g, err)
	}
	if body, err := tag.Encode(g); len(body) != 0 || err != api.ErrArg {
		t.Errorf("Encode(%+v): % x, %v, want ErrArg alone", g, body, err)
	}
}

func encode(t *testing.T, g api.Tag) []byte {
	t.Helper()
	body, err := tag.Encode(g)
	if err != nil || len(body) != bodySize {
		t.Fatalf("Encode(%+v): % x, %v", g, body, err)
	}
	return body
}

// The examples of the chapter's table.

func TestExamplesOfEncode(t *testing.T) {
	want := append([]byte{0x5f, 0, 0x18, 2, 1, 0, 0, 0, 7, 0}, make([]byte, 40)...)
	g := api.Tag{Place: 95, Of: 24, Seq: 258, Copy: 7}
	if body, err := tag.Encode(g); err != nil || !bytes.Equal(body, want) {
		t.Errorf("Encode: % x, %v, want % x", body, err, want)
	}
}

func TestExamplesOfCheck(t *testing.T) {
	for _, g := range []api.Tag{{Place: 6, Of: 3, Seq: 1}, {Seq: 0}, {Seq: 1, Copy: 256}, {Of: 24, Seq: 1, Lost: true}} {
		if err := tag.Check(g); err != api.ErrArg {
			t.Errorf("Check(%+v): %v, want ErrArg", g, err)
		}
	}
	for _, g := range []api.Tag{{Seq: 1}, {Place: 0, Of: 24, Seq: 1}} {
		if err := tag.Check(g); err != nil {
			t.Errorf("Check(%+v): %v, want nil", g, err)
		}
	}
}

func TestExamplesOfDecode(t *testing.T) {
	wantNoTag(t, make([]byte, 50), api.ErrForm)
	wantNoTag(t, make([]byte, 49), api.ErrArg)
}

// P7.1: which tags may be, and their bodies.

func TestEachFieldAtItsEnds(t *testing.T) {
	sector := api.Tag{Place: 8, Of: 3, Seq: 7, Copy: 2}
	lost := sector
	lost.Lost = true
	checkpoint := api.Tag{Place: 15, Of: point, Seq: 7, Copy: 2}
	for _, base := range []api.Tag{sector, lost, checkpoint} {
		wantMay(t, base)
		for _, c := range turned(base) {
			if c.may {
				wantMay(t, c.tag)
			} else {
				wantMayNot(t, c.tag)
			}
		}
	}
}

// turned are a tag with each of its numbers in turn put in another's place.
func turned(base api.Tag) []trial {
	var out []trial
	add := func(numbers []number, put func(*api.Tag, int64)) {
		for _, n := range numbers {
			g := base
			put(&g, n.v)
			out = append(out, trial{g, n.may && together(g)})
		}
	}
	add(places(), func(g *api.Tag, v int64) { g.Place = int(v) })
	add(ofs(), func(g *api.Tag, v int64) { g.Of = int(v) })
	add(seqs(), func(g *api.Tag, v int64) { g.Seq = v })
	add(copies(), func(g *api.Tag, v int64) { g.Copy = int(v) })
	return out
}

// The ends of all fields at once, however they are put together.
func TestAllFieldsAtTheirEnds(t *testing.T) {
	may := 0
	for _, c := range trials() {
		if c.may {
			may++
			wantMay(t, c.tag)
		} else {
			wantMayNot(t, c.tag)
		}
		if t.Failed() {
			return
		}
	}
	if may == 0 {
		t.Error("no tag of the trials may be")
	}
}

// Every page with every number, gone through by blocks: the last two of each block are the checkpoint's alone.
func TestEveryPlaceOfEveryNumber(t *testing.T) {
	for block := range 12 {
		for index := range 8 {
			for of := range 25 {
				for _, lost := range []bool{false, true} {
					g := api.Tag{Place: 8*block + index, Of: of, Seq: 1, Lost: lost}
					if of < point && index < 6 || of == point && !lost {
						wantMay(t, g)
					} else {
						wantMayNot(t, g)
					}
				}
			}
		}
	}
}

func TestEveryCopy(t *testing.T) {
	for again := range 256 {
		wantMay(t, api.Tag{Place: 21, Of: 11, Seq: 3, Copy: again})
		wantMay(t, api.Tag{Place: 23, Of: point, Seq: 3, Copy: again})
	}
}

// Seqs of which each byte and each bit stands alone, and their neighbours.
func TestSeqsOfAllSizes(t *testing.T) {
	for bit := range 40 {
		seq := int64(1) << bit
		wantMay(t, api.Tag{Seq: seq})
		wantMay(t, api.Tag{Seq: maxSeq - seq + 1})
		if seq > 1 {
			wantMay(t, api.Tag{Seq: seq - 1})
		}
	}
	for bit := 40; bit < 64; bit++ {
		wantMayNot(t, api.Tag{Seq: int64(1) << bit})
		wantMayNot(t, api.Tag{Seq: int64(1)<<bit + 1})
	}
}

// Each field at its place, and none of the others touched by it.
func TestEachFieldAtItsPlaceInTheBody(t *testing.T) {
	cases := []struct {
		tag  api.Tag
		want [10]byte
	}{
		{api.Tag{Place: 0, Of: 0, Seq: 1, Copy: 0}, [10]byte{0, 0, 0, 1, 0, 0, 0, 0, 0, 0}},
		{api.Tag{Place: 93, Of: 0, Seq: 1, Copy: 0}, [10]byte{0x5d, 0, 0, 1, 0, 0, 0, 0, 0, 0}},
		{api.Tag{Place: 0, Of: 23, Seq: 1, Copy: 0}, [10]byte{0, 0, 0x17, 1, 0, 0, 0, 0, 0, 0}},
		{api.Tag{Place: 0, Of: 0, Seq: 0x0504030201, Copy: 0}, [10]byte{0, 0, 0, 1, 2, 3, 4, 5, 0, 0}},
		{api.Tag{Place: 0, Of: 0, Seq: maxSeq, Copy: 0}, [10]byte{0, 0, 0, 0xff, 0xff, 0xff, 0xff, 0xff, 0, 0}},
		{api.Tag{Place: 0, Of: 0, Seq: 1, Copy: 255}, [10]byte{0, 0, 0, 1, 0, 0, 0, 0, 0xff, 0}},
		{api.Tag{Place: 0, Of: 0, Seq: 1, Copy: 0, Lost: true}, [10]byte{0, 0, 0, 1, 0, 0, 0, 0, 0, 1}},
		{api.Tag{Place: 61, Of: 17, Seq: 0xa9a8a7a6a5, Copy: 0xb1, Lost: true}, [10]byte{0x3d, 0, 0x11, 0xa5, 0xa6, 0xa7, 0xa8, 0xa9, 0xb1, 1}},
		{api.Tag{Place: 95, Of: 24, Seq: maxSeq, Copy: 255}, [10]byte{0x5f, 0, 0x18, 0xff, 0xff, 0xff, 0xff, 0xff, 0xff, 0}},
	}
	for _, c := range cases {
		body := encode(t, c.tag)
		if !bytes.Equal(body[:10], c.want[:]) || !bytes.Equal(body[10:], make([]byte, 40)) {
			t.Errorf("Encode(%+v): % x, want % x and 40 noughts", c.tag, body, c.want)
		}
	}
}
