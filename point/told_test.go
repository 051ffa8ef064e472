package point_test

import (
	"bytes"
	"math"
	"strconv"
	"testing"

	"patina/api"
	"patina/point"
)

// What the chapter says, told without the program: the table of the bytes, and which checkpoints can be told.

const (
	size   = 174
	maxSeq = 1099511627775 // 2^40 - 1
	restAt = 164
)

// number is a number of a checkpoint: where it lies in the data, in how many bytes, its greatest, and how it is set.
type number struct {
	name     string
	at, wide int
	greatest int64
	put      func(*api.Checkpoint, int64)
}

// numbers are all of a checkpoint's, from its first byte on, but Bad.
func numbers() []number {
	var out []number
	for i := range 24 {
		out = append(out, number{"Floors " + strconv.Itoa(i), 5 * i, 5, maxSeq, func(c *api.Checkpoint, v int64) { c.Floors[i] = v }})
	}
	out = append(out,
		number{"Next", 120, 5, maxSeq, func(c *api.Checkpoint, v int64) { c.Next = v }},
		number{"Cursor", 127, 1, 95, func(c *api.Checkpoint, v int64) { c.Cursor = int(v) }})
	for i := range 12 {
		out = append(out, number{"Reads " + strconv.Itoa(i), 128 + 2*i, 2, 65535, func(c *api.Checkpoint, v int64) { c.Reads[i] = int(v) }})
	}
	for i := range 12 {
		out = append(out, number{"Scores " + strconv.Itoa(i), 152 + i, 1, 255, func(c *api.Checkpoint, v int64) { c.Scores[i] = int(v) }})
	}
	return out
}

// may are numbers that a field may be: both ends and their neighbours, each byte and each bit alone, and all bytes unlike one another.
func (n number) may() []int64 {
	out := []int64{0, 1, 2, n.greatest / 2, n.greatest/2 + 1, n.greatest - 1, n.greatest}
	pattern := int64(0)
	for i := range n.wide {
		out = append(out, int64(0xff)<<(8*i), int64(0x5a)<<(8*i))
		pattern = pattern<<8 | int64(17*(i+1))
	}
	for bit := range 8 * n.wide {
		out = append(out, 1<<bit, 1<<bit-1)
	}
	var within []int64
	for _, v := range append(out, pattern) {
		if v <= n.greatest {
			within = append(within, v)
		}
	}
	return within
}

// mayNot are numbers that a field may not be: beyond both ends, the ends of its type, and such as would be one that may be if they were cut down to the field's bytes.
func (n number) mayNot() []int64 {
	room := int64(1) << (8 * n.wide)
	return []int64{
		math.MinInt64, math.MinInt64 + 1, math.MinInt64 + 7, -room, -room + 1, -n.greatest - 1, -n.greatest, -3, -2, -1,
		n.greatest + 1, n.greatest + 2, room, room + 1, 2*room + 5, 256*room + 1, 1 << 40, 1<<62 + 3, math.MaxInt64 - 1, math.MaxInt64,
	}
}

// bytesOf are the bytes of a checkpoint, put together without the program.
func bytesOf(c api.Checkpoint) []byte {
	out := make([]byte, size)
	spread := func(at, wide int, v int64) {
		for i := range wide {
			out[at+i] = byte(v % 256)
			v /= 256
		}
	}
	for i, floor := range c.Floors {
		spread(5*i, 5, floor)
	}
	spread(120, 5, c.Next)
	bad, worth := 0, 1
	for _, is := range c.Bad {
		if is {
			bad += worth
		}
		worth *= 2
	}
	spread(125, 2, int64(bad))
	spread(127, 1, int64(c.Cursor))
	for i, reads := range c.Reads {
		spread(128+2*i, 2, int64(reads))
	}
	for i, score := range c.Scores {
		spread(152+i, 1, int64(score))
	}
	return out
}

// checkpointOf is the checkpoint of some bytes, and whether they are one's, told without the program.
func checkpointOf(b []byte) (api.Checkpoint, bool) {
	if len(b) != size || b[126] > 15 || b[127] > 95 || !bytes.Equal(b[restAt:], make([]byte, 10)) {
		return api.Checkpoint{}, false
	}
	gather := func(at, wide int) int64 {
		v := int64(0)
		for i := wide - 1; i >= 0; i-- {
			v = 256*v + int64(b[at+i])
		}
		return v
	}
	c := api.Checkpoint{Next: gather(120, 5), Cursor: int(b[127])}
	for i := range 24 {
		c.Floors[i] = gather(5*i, 5)
	}
	bad := gather(125, 2)
	for i := range 12 {
		c.Bad[i] = bad%2 == 1
		bad /= 2
		c.Reads[i], c.Scores[i] = int(gather(128+2*i, 2)), int(b[152+i])
	}
	return c, true
}

// canBeTold is the chapter's sentence.
func canBeTold(c api.Checkpoint) bool {
	told := c.Next >= 0 && c.Next <= maxSeq && c.Cursor >= 0 && c.Cursor <= 95
	for _, floor := range c.Floors {
		told = told && floor >= 0 && floor <= maxSeq
	}
	for i := range 12 {
		told = told && c.Reads[i] >= 0 && c.Reads[i] <= 65535 && c.Scores[i] >= 0 && c.Scores[i] <= 255
	}
	return told
}

// wantBytes asks Write of a checkpoint that can be told, and answers what it did.
func wantBytes(t *testing.T, c api.Checkpoint) []byte {
	t.Helper()
	b, err := point.Write(c)
	if err != nil || !bytes.Equal(b, bytesOf(c)) {
		t.Fatalf("Write(%+v): % x, %v, want % x", c, b, err, bytesOf(c))
	}
	return b
}

// wantNoBytes asks Write of a checkpoint that can't be told.
func wantNoBytes(t *testing.T, c api.Checkpoint) {
	t.Helper()
	if b, err := point.Write(c); len(b) != 0 || err != api.ErrArg {
		t.Errorf("Write(%+v): % x, %v, want ErrArg alone", c, b, err)
	}
}

// wantCheckpoint asks Read of bytes that are a checkpoint's.
func wantCheckpoint(t *testing.T, b []byte, want api.Checkpoint) {
	t.Helper()
	if c, err := point.Read(b); c != want || err != nil {
		t.Fatalf("Read(% x): %+v, %v, want %+v", b, c, err, want)
	}
}

// wantNoCheckpoint asks Read of bytes that are none's.
func wantNoCheckpoint(t *testing.T, b []byte) {
	t.Helper()
	if c, err := point.Read(b); c != (api.Checkpoint{}) || err != api.ErrForm {
		t.Errorf("Read(% x): %+v, %v, want ErrForm alone", b, c, err)
	}
}

// wantAsTold asks Read of bytes, whatever they are.
func wantAsTold(t *testing.T, b []byte) {
	t.Helper()
	if c, is := checkpointOf(b); is {
		wantCheckpoint(t, b, c)
	} else {
		wantNoCheckpoint(t, b)
	}
}

// checkpoints are some of every kind that can be told.
func checkpoints() []api.Checkpoint {
	out := []api.Checkpoint{{}, example(), greatest(), unlike()}
	for _, n := range numbers() {
		for _, base := range []api.Checkpoint{{}, greatest(), unlike()} {
			for _, v := range []int64{0, 1, n.greatest - 1, n.greatest} {
				c := base
				n.put(&c, v)
				out = append(out, c)
			}
		}
	}
	for block := range 12 {
		for _, base := range []api.Checkpoint{{}, greatest(), unlike()} {
			c := base
			c.Bad[block] = !c.Bad[block]
			out = append(out, c)
		}
	}
	return out
}

// example is the checkpoint of the chapter's second example.
func example() api.Checkpoint {
	c := api.Checkpoint{Next: 3, Cursor: 95}
	c.Floors[1], c.Bad[0], c.Bad[11], c.Reads[11], c.Scores[0] = 258, true, true, 512, 2
	return c
}

// greatest is the checkpoint of which everything is at its greatest.
func greatest() api.Checkpoint {
	var c api.Checkpoint
	for _, n := range numbers() {
		n.put(&c, n.greatest)
	}
	for block := range c.Bad {
		c.Bad[block] = true
	}
	return c
}

// unlike is a checkpoint of which no two numbers that lie beside one another are alike, nor two bytes of one of them.
func unlike() api.Checkpoint {
	c := api.Checkpoint{Next: 0x1f2e3d4c5b, Cursor: 42}
	for i := range c.Floors {
		c.Floors[i] = 0x0102030405 * int64(i+1)
	}
	for i := range c.Bad {
		c.Bad[i] = i%3 == 1
		c.Reads[i], c.Scores[i] = 0x1234+0x0503*i, 0x91+7*i
	}
	return c
}

// with is bytes of which some, from one on, are others.
func with(b []byte, from int, others ...byte) []byte {
	out := bytes.Clone(b)
	copy(out[from:], others)
	return out
}

// source gives numbers that hang on its start alone.
type source uint64

func (s *source) next() uint64 {
	*s = *s*6364136223846793005 + 1442695040888963407
	return uint64(*s) >> 31
}

func (s *source) below(n int64) int64 { return int64((s.next()<<33 ^ s.next()) % uint64(n)) }

// checkpoint is one that can be told, about half of its numbers being 0.
func (s *source) checkpoint() api.Checkpoint {
	var c api.Checkpoint
	for _, n := range numbers() {
		n.put(&c, s.below(2)*s.below(n.greatest+1))
	}
	for block := range c.Bad {
		c.Bad[block] = s.below(2) == 1
	}
	return c
}

// nearly is bytes that are often, but not always, a checkpoint's.
func (s *source) nearly() []byte {
	b := make([]byte, size)
	for i := range restAt {
		b[i] = byte(s.below(2) * s.below(256))
	}
	b[126] &= 15
	b[127] = byte(s.below(96))
	switch s.below(4) {
	case 0:
		b[s.below(size)] = byte(s.below(256))
	case 1:
		b[126+s.below(2)] = byte(s.below(256))
	}
	return b
}
