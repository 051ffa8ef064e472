package media_test

import (
	"bytes"
	"fmt"
	"math"
	"testing"

	"patina/api"
	"patina/media"
	"patina/nand"
	"patina/rs"
)

// What the chapters of the layers 6 to 8 say of a page, told without those packages.

const (
	blocks      = 12
	pages       = 8
	all         = 96
	chunks      = 4
	wordSize    = 64
	messageSize = 58
	dataSize    = 174
	bodySize    = 50
	pageSize    = 256
	tagChunk    = 3
	point       = 24
	maxSeq      = 1<<40 - 1
	theMark     = "patina01"
)

// source gives numbers that hang on its start alone.
type source uint64

func (s *source) next(n int) int {
	*s = *s*6364136223846793005 + 1442695040888963407
	return int(uint64(*s) >> 33 % uint64(n))
}

func (s *source) bytes(n int) []byte {
	b := make([]byte, n)
	for i := range b {
		b[i] = byte(s.next(256))
	}
	return b
}

// places are n unlike numbers below many.
func (s *source) places(n, many int) []int {
	taken := make([]bool, many)
	var out []int
	for len(out) < n {
		if i := s.next(many); !taken[i] {
			taken[i] = true
			out = append(out, i)
		}
	}
	return out
}

// data is what a page may hold: any bytes, or now and then noughts, or ff.
func (s *source) data() []byte {
	switch s.next(8) {
	case 0:
		return make([]byte, dataSize)
	case 1:
		return ones(dataSize)
	}
	return s.bytes(dataSize)
}

// tag is one that may be, of a page.
func (s *source) tag(at int) api.Tag {
	g := api.Tag{Place: at, Of: point, Seq: 1 + int64(s.next(1<<30))<<s.next(11), Copy: s.next(256)}
	if isData(at) && s.next(5) > 0 {
		g.Of = s.next(24)
		g.Lost = s.next(3) == 0
	}
	return g
}

// isData tells whether a sector may lie in a page.
func isData(at int) bool { return at%pages != 6 && at%pages != 7 }

// ones is n bytes ff.
func ones(n int) []byte { return bytes.Repeat([]byte{0xff}, n) }

// codec is layer 2, which all that is held against a page here is made with.
var codec = rs.New()

// codeword is what layer 2 makes of a message.
func codeword(message []byte) []byte {
	word, err := codec.Encode(message)
	if err != nil {
		panic(err)
	}
	return word
}

// bodyOf is the body of a tag, whether it may be or not.
func bodyOf(g api.Tag) []byte {
	b := []byte{byte(g.Place), byte(g.Place >> 8), byte(g.Of)}
	for i := range 5 {
		b = append(b, byte(g.Seq>>(8*i)))
	}
	b = append(b, byte(g.Copy), 0)
	if g.Lost {
		b[9] = 1
	}
	return append(b, make([]byte, 40)...)
}

// tagWord is a tag's chunk, of any body.
func tagWord(body []byte) []byte { return codeword(append(bytes.Clone(body), theMark...)) }

// laid are the chunks of a page.
func laid(data []byte, g api.Tag) [chunks][]byte {
	return [chunks][]byte{codeword(data[:58]), codeword(data[58:116]), codeword(data[116:]), tagWord(bodyOf(g))}
}

// mayBe tells whether there may be such a tag.
func mayBe(g api.Tag) bool {
	switch {
	case g.Place < 0, g.Place > 95, g.Of < 0, g.Of > 24, g.Seq < 1, g.Seq > maxSeq, g.Copy < 0, g.Copy > 255:
		return false
	case g.Of == point:
		return !g.Lost
	}
	return isData(g.Place)
}

// tagOf is the tag whose body that is, if there is one.
func tagOf(body []byte) (api.Tag, bool) {
	g := api.Tag{Place: int(body[0]) | int(body[1])<<8, Of: int(body[2]), Copy: int(body[8]), Lost: body[9] == 1}
	for i := range 5 {
		g.Seq |= int64(body[3+i]) << (8 * i)
	}
	return g, mayBe(g) && bytes.Equal(bodyOf(g), body)
}

// readAs is what the bytes of a page are read as.
func readAs(at int, raw []byte) api.Page {
	var page api.Page
	var messages [chunks][]byte
	for i := range chunks {
		message, damage, err := codec.Decode(raw[i*wordSize : (i+1)*wordSize])
		if err == nil {
			messages[i] = message
			page.Damage = max(page.Damage, damage)
		}
	}
	last := messages[tagChunk]
	if last == nil || string(last[bodySize:]) != theMark {
		return page
	}
	g, may := tagOf(last[:bodySize])
	if !may || g.Place != at {
		return page
	}
	page.Tagged, page.Tag = true, g
	if messages[0] != nil && messages[1] != nil && messages[2] != nil {
		page.Sound, page.Data = true, bytes.Join(messages[:3], nil)
	}
	return page
}

// whole is what a page is read as that was programmed so, with so much damage.
func whole(g api.Tag, data []byte, damage int) api.Page {
	return api.Page{Tagged: true, Tag: g, Sound: true, Data: data, Damage: damage}
}

func samePage(a, b api.Page) bool {
	return a.Tagged == b.Tagged && a.Tag == b.Tag && a.Sound == b.Sound && bytes.Equal(a.Data, b.Data) && a.Damage == b.Damage
}

// turn turns some bits of one byte of a page.
func turn(t *testing.T, c *nand.Chip, at, place int, bits byte) {
	t.Helper()
	for i := range 8 {
		if bits>>i&1 == 1 {
			must(t, c.Flip(at, place*8+i))
		}
	}
}

// harm turns n bytes of one of a page's chunks, each in some way.
func (s *source) harm(t *testing.T, c *nand.Chip, at, chunk, n int) {
	t.Helper()
	for _, i := range s.places(n, wordSize) {
		turn(t, c, at, chunk*wordSize+i, byte(1+s.next(255)))
	}
}

// must is for steps on the way to what is tested.
func must(t *testing.T, err error) {
	t.Helper()
	if err != nil {
		t.Fatalf("on the way: %v", err)
	}
}

func wantErr(t *testing.T, what string, got, want error) {
	t.Helper()
	if got != want {
		t.Errorf("%s: %v, want %v", what, got, want)
	}
}

func wantRead(t *testing.T, m *media.Media, at int, want api.Page) {
	t.Helper()
	if got, err := m.Read(at); !samePage(got, want) || err != nil {
		t.Errorf("Read(%d): %+v, %v, want %+v", at, got, err, want)
	}
}

func wantNoRead(t *testing.T, m *media.Media, at int, want error) {
	t.Helper()
	if got, err := m.Read(at); !samePage(got, api.Page{}) || got.Data != nil || err != want {
		t.Errorf("Read(%d): %+v, %v, want %v alone", at, got, err, want)
	}
}

func wantProgram(t *testing.T, m *media.Media, at int, g api.Tag, data []byte, want error) {
	t.Helper()
	wantErr(t, fmt.Sprintf("Program(%d, %+v, %d bytes)", at, g, len(data)), m.Program(at, g, data), want)
}

func wantErase(t *testing.T, m *media.Media, block int, want error) {
	t.Helper()
	wantErr(t, fmt.Sprintf("Erase(%d)", block), m.Erase(block), want)
}

func wantReads(t *testing.T, m *media.Media, want int) {
	t.Helper()
	if n := m.Reads(); n != want {
		t.Errorf("Reads(): %d, want %d", n, want)
	}
}

// outside are ints that are none of 0 to n - 1.
func outside(n int) []int {
	return []int{-1, n, math.MinInt, math.MaxInt, -2, n + 1, -n, 2 * n, 256, -256, 1 << 16, 1 << 32, 1<<32 + 3, -1 << 32, 1<<61 + 1, math.MinInt + 1, math.MaxInt - 1}
}

// off lets a chip's power go.
func off(t *testing.T, c *nand.Chip) {
	t.Helper()
	must(t, c.Cut(0))
	if err := c.Erase(0); err != api.ErrPower || c.On() {
		t.Fatalf("the power doesn't go: %v", err)
	}
}

// failed makes a block fail, at an erase.
func failed(t *testing.T, c *nand.Chip, block int) {
	t.Helper()
	must(t, c.FailErase(block))
	if err := c.Erase(block); err != api.ErrFail {
		t.Fatalf("the block %d doesn't fail: %v", block, err)
	}
}
