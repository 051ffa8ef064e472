package tag_test

import (
	"bytes"
	"testing"

	"patina/api"
	"patina/tag"
)

// wantTag asks Decode of a body that is read.
func wantTag(t *testing.T, body []byte, want api.Tag) {
	t.Helper()
	if g, err := tag.Decode(body); g != want || err != nil {
		t.Errorf("Decode(% x): %+v, %v, want %+v", body, g, err, want)
	}
}

// wantNoTag asks Decode of bytes that are none.
func wantNoTag(t *testing.T, body []byte, want api.Code) {
	t.Helper()
	if g, err := tag.Decode(body); g != (api.Tag{}) || err != want {
		t.Errorf("Decode(% x): %+v, %v, want %v alone", body, g, err, want)
	}
}

// tagOf is the tag of 50 bytes, and whether they are the body of one that may be, told by the chapter's words without the program.
func tagOf(body []byte) (api.Tag, bool) {
	place, of := int(body[0])+256*int(body[1]), int(body[2])
	seq, scale := int64(0), int64(1)
	for _, part := range body[3:8] {
		seq += int64(part) * scale
		scale *= 256
	}
	g := api.Tag{Place: place, Of: of, Seq: seq, Copy: int(body[8]), Lost: body[9] == 1}
	noughts := bytes.Count(body[10:], []byte{0}) == 40
	may := place <= 95 && of <= point && seq >= 1 && body[9] <= 1 && noughts && together(g)
	return g, may
}

// wantAsTold asks Decode of 50 bytes, whatever they are.
func wantAsTold(t *testing.T, body []byte) {
	t.Helper()
	if g, may := tagOf(body); may {
		wantTag(t, body, g)
	} else {
		wantNoTag(t, body, api.ErrForm)
	}
}

// bases are bodies of every kind, put together without the program: of a sector, of a lost one, of checkpoints, at the ends.
func bases() [][]byte {
	tags := []api.Tag{
		{Place: 0, Of: 0, Seq: 1},
		{Place: 93, Of: 23, Seq: maxSeq, Copy: 255},
		{Place: 42, Of: 9, Seq: 0x0908070605, Copy: 4, Lost: true},
		{Place: 0, Of: point, Seq: 1},
		{Place: 95, Of: point, Seq: maxSeq, Copy: 255},
		{Place: 14, Of: point, Seq: 258, Copy: 7},
	}
	var out [][]byte
	for _, g := range tags {
		out = append(out, bodyOf(g))
	}
	return out
}

// with is a body of which some bytes, from one on, are others.
func with(body []byte, from int, others ...byte) []byte {
	out := bytes.Clone(body)
	copy(out[from:], others)
	return out
}

// P7.2: what is no body of 50 bytes.

func TestDecodeOfOtherSizes(t *testing.T) {
	wantNoTag(t, nil, api.ErrArg)
	wantNoTag(t, []byte{}, api.ErrArg)
	for _, base := range bases() {
		long := append(bytes.Clone(base), make([]byte, 300)...)
		for _, size := range []int{0, 1, 9, 10, 49, 51, 58, 64, 100, 256, 350} {
			wantNoTag(t, long[:size], api.ErrArg)
		}
		g, _ := tagOf(base)
		wantTag(t, long[:bodySize], g)
	}
	wantNoTag(t, make([]byte, 1<<20), api.ErrArg)
}

// Of other sizes the size is told first, whatever stands in them.
func TestDecodeTellsTheSizeFirst(t *testing.T) {
	for _, size := range []int{49, 51} {
		wantNoTag(t, make([]byte, size), api.ErrArg)
		wantNoTag(t, bytes.Repeat([]byte{0xff}, size), api.ErrArg)
		for _, from := range []int{0, 2, 9, 10, 48} {
			long := append(with(bases()[0], from, 0xff), 0)
			wantNoTag(t, long[:size], api.ErrArg)
		}
	}
}

// P7.2: bodies of 50 bytes that are read, and such as are not.

func TestDecodeOfBodiesPutTogetherWithoutEncode(t *testing.T) {
	for _, g := range tagsThatMayBe() {
		wantTag(t, bodyOf(g), g)
		if t.Failed() {
			return
		}
	}
}

func TestDecodeOfEachFieldAtItsEnds(t *testing.T) {
	sector, checkpoint := bodyOf(api.Tag{Seq: 7}), bodyOf(api.Tag{Of: point, Seq: 7})
	for _, body := range [][]byte{
		with(sector, 0, 96), with(sector, 0, 0xff), with(sector, 0, 0, 1), with(sector, 0, 8, 1), with(sector, 1, 0xff), with(sector, 0, 0xff, 0xff),
		with(sector, 0, 6), with(sector, 0, 7), with(sector, 0, 94), with(sector, 0, 95),
		with(sector, 2, 25), with(sector, 2, 26), with(sector, 2, 0x80), with(sector, 2, 0xff),
		with(sector, 3, 0, 0, 0, 0, 0), with(sector, 9, 2), with(sector, 9, 0xff),
		with(checkpoint, 0, 96), with(checkpoint, 0, 0, 1), with(checkpoint, 3, 0, 0, 0, 0, 0),
		with(checkpoint, 9, 1), with(checkpoint, 9, 2), with(checkpoint, 9, 0xff),
	} {
		wantNoTag(t, body, api.ErrForm)
	}
	wantTag(t, with(sector, 0, 93), api.Tag{Place: 93, Seq: 7})
	wantTag(t, with(sector, 2, 23), api.Tag{Of: 23, Seq: 7})
	wantTag(t, with(sector, 2, 24), api.Tag{Of: 24, Seq: 7})
	wantTag(t, with(sector, 3, 1), api.Tag{Seq: 1})
	wantTag(t, with(sector, 3, 0xff, 0xff, 0xff, 0xff, 0xff), api.Tag{Seq: maxSeq})
	wantTag(t, with(sector, 8, 0xff), api.Tag{Seq: 7, Copy: 255})
	wantTag(t, with(sector, 9, 1), api.Tag{Seq: 7, Lost: true})
	wantTag(t, with(checkpoint, 0, 95), api.Tag{Place: 95, Of: 24, Seq: 7})
}

// Every byte of a body put in every other's place.
func TestDecodeOfBodiesWithOneByteTurned(t *testing.T) {
	for _, base := range bases() {
		for i := range base {
			for value := range 256 {
				wantAsTold(t, with(base, i, byte(value)))
			}
		}
	}
}

func TestDecodeOfAByteOfLostThatIsNone(t *testing.T) {
	for _, base := range bases() {
		for value := 2; value < 256; value++ {
			wantNoTag(t, with(base, 9, byte(value)), api.ErrForm)
		}
	}
}

func TestDecodeOfARestThatIsNotNoughts(t *testing.T) {
	for _, base := range bases() {
		for i := 10; i < bodySize; i++ {
			for _, value := range []byte{1, 2, 0x80, 0xff} {
				wantNoTag(t, with(base, i, value), api.ErrForm)
			}
		}
		wantNoTag(t, with(base, 10, bytes.Repeat([]byte{0xff}, 40)...), api.ErrForm)
		wantNoTag(t, with(base, 10, 1, 0xff), api.ErrForm) // together a nought, if they were summed up
	}
}

// Where several things are wrong with 50 bytes the answer is the same.
func TestDecodeOfBodiesWithSeveralFaults(t *testing.T) {
	wantNoTag(t, bytes.Repeat([]byte{0xff}, bodySize), api.ErrForm)
	base := bases()[0]
	faults := [][]byte{with(base, 0, 96), with(base, 2, 25), with(base, 3, 0), with(base, 9, 2), with(base, 49, 1)}
	for _, a := range faults {
		for _, b := range faults {
			both := bytes.Clone(a)
			for i := range both {
				if b[i] != base[i] {
					both[i] = b[i]
				}
			}
			wantNoTag(t, both, api.ErrForm)
		}
	}
}

// Every number of two bytes as a place: the second byte is no room to spare.
func TestDecodeOfEveryPlace(t *testing.T) {
	for place := range 1 << 16 {
		for _, of := range []byte{0, 23, point} {
			body := with(bases()[0], 0, byte(place%256), byte(place/256), of)
			wantAsTold(t, body)
		}
		if t.Failed() {
			return
		}
	}
}

// P7.3: what follows.

func TestDecodeOfEncodeIsTheTag(t *testing.T) {
	for _, g := range tagsThatMayBe() {
		wantTag(t, encode(t, g), g)
		if t.Failed() {
			return
		}
	}
	for place := range 96 {
		for of := range 25 {
			for _, lost := range []bool{false, true} {
				g := api.Tag{Place: place, Of: of, Seq: int64(1 + place*of), Copy: place + of, Lost: lost}
				if together(g) {
					wantTag(t, encode(t, g), g)
				}
			}
		}
	}
}

// Whatever body is read is what Encode lays of its tag, and its tag is one that may be.
func TestEncodeOfDecodeIsTheBody(t *testing.T) {
	read := 0
	s := source(7)
	for range 200000 {
		body := s.nearly()
		wantAsTold(t, body)
		g, err := tag.Decode(body)
		if err != nil {
			continue
		}
		read++
		if err := tag.Check(g); err != nil {
			t.Errorf("Check of what Decode(% x) answered: %v", body, err)
		}
		if again := encode(t, g); !bytes.Equal(again, body) {
			t.Errorf("Encode of Decode(% x): % x", body, again)
		}
		if t.Failed() {
			return
		}
	}
	if read < 1000 {
		t.Errorf("only %d bodies were read", read)
	}
}

// Two tags that may be and are not the same have bodies that are not the same.
func TestBodiesTellTagsApart(t *testing.T) {
	taken := map[string]api.Tag{}
	for _, g := range tagsThatMayBe() {
		body := string(encode(t, g))
		if other, ok := taken[body]; ok {
			t.Fatalf("%+v and %+v have one body", g, other)
		}
		taken[body] = g
	}
}

// source gives numbers that hang on its start alone.
type source uint64

func (s *source) next(n int) int {
	*s = *s*6364136223846793005 + 1442695040888963407
	return int(uint64(*s) >> 33 % uint64(n))
}

// nearly is 50 bytes that are often, but not always, a body.
func (s *source) nearly() []byte {
	body := make([]byte, bodySize)
	body[0] = byte(s.next(100))
	body[2] = byte(s.next(27))
	for i := 3; i < 9; i++ {
		body[i] = byte(s.next(256) * s.next(2))
	}
	body[9] = byte(s.next(2))
	if s.next(4) == 0 {
		body[s.next(bodySize)] = byte(s.next(256))
	}
	return body
}
