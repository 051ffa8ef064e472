package nand_test

import (
	"bytes"
	"fmt"
	"math"
	"testing"

	"patina/api"
	"patina/nand"
)

// The chapter's numbers, written out here: that they are also package api's is tested too.
const (
	blocks    = 12
	pages     = 8
	all       = 96
	chunks    = 4
	word      = 64
	pageBytes = 256
	bits      = 2048
)

// many is how many steps are tried at most, to find out when the power goes, or a block fails.
const many = 32

// far are ints that are no block, page, chunk or bit, whichever is asked for.
func far() []int {
	return []int{
		-2, -4, -8, -12, -96, -2048, 2049, 4096, 1 << 20, -1 << 20,
		math.MaxInt32, math.MinInt32, 1 << 32, 1<<32 + 1, -1 << 32, 1<<61 + 1, 1 << 62,
		math.MaxInt, math.MaxInt - 1, math.MinInt, math.MinInt + 1,
	}
}

// outside are the ints just outside 0 to n - 1, a little further on, and far outside.
func outside(n int) []int {
	return append(far(), -1, n, n+1, 2*n)
}

// minus are ints below nought.
func minus() []int {
	return []int{-1, -2, -12, -96, math.MinInt32, math.MinInt + 1, math.MinInt}
}

// fill is 64 bytes, all different, that hang on a seed alone.
func fill(seed int) []byte {
	b := make([]byte, word)
	for i := range b {
		b[i] = byte(seed*37 + i*5)
	}
	return b
}

// same is n bytes b.
func same(b byte, n int) []byte {
	return bytes.Repeat([]byte{b}, n)
}

// sight is all that can be found out of a chip without a change of it.
type sight struct {
	on         bool
	steps      int
	reads      [blocks]int
	failed     [blocks]bool
	damage     [all][chunks]int
	worst      [all][chunks]int
	truth      [all][chunks][word]byte
	programmed [all][chunks]bool
	now        [all][pageBytes]byte
	budget     int          // how many steps there are until the power goes; many: that or more, or no end of them
	writes     [blocks]int  // how many writes of the block are left until one fails; many: that or more, or no end of them
	eraseFails [blocks]bool // of the next one
}

// newSight is what the chapter says of a new chip.
func newSight() *sight {
	s := &sight{on: true, budget: many}
	for b := range blocks {
		s.writes[b] = many
	}
	for at := range all {
		s.now[at] = [pageBytes]byte(same(0xff, pageBytes))
		for chunk := range chunks {
			s.truth[at][chunk] = [word]byte(same(0xff, word))
		}
	}
	return s
}

// see looks at a chip; what would change it is asked of its clones.
func see(t *testing.T, c *nand.Chip) *sight {
	t.Helper()
	s := &sight{on: c.On(), steps: c.Steps()}
	for b := range blocks {
		seeBlock(t, c, s, b)
	}
	d := c.Clone()
	d.Power()
	for at := range all {
		page, err := d.Read(at)
		if err != nil || len(page) != pageBytes {
			t.Fatalf("Read(%d): %x, %v, want 256 bytes", at, page, err)
		}
		s.now[at] = [pageBytes]byte(page)
		for chunk := range chunks {
			seeChunk(t, c, s, at, chunk)
		}
	}
	s.budget = budget(t, c)
	return s
}

func seeBlock(t *testing.T, c *nand.Chip, s *sight, b int) {
	t.Helper()
	var err error
	if s.reads[b], err = c.Reads(b); err != nil {
		t.Fatalf("Reads(%d): %v", b, err)
	}
	if s.failed[b], err = c.Failed(b); err != nil {
		t.Fatalf("Failed(%d): %v", b, err)
	}
	d := c.Clone()
	d.Power()
	s.eraseFails[b] = d.Erase(b) == api.ErrFail
	s.writes[b] = writes(t, c, b)
}

func seeChunk(t *testing.T, c *nand.Chip, s *sight, at, chunk int) {
	t.Helper()
	var err error
	if s.damage[at][chunk], s.worst[at][chunk], err = c.Damage(at, chunk); err != nil {
		t.Fatalf("Damage(%d, %d): %v", at, chunk, err)
	}
	truth, programmed, err := c.Truth(at, chunk)
	if err != nil || len(truth) != word {
		t.Fatalf("Truth(%d, %d): %x, %v, want 64 bytes", at, chunk, truth, err)
	}
	s.truth[at][chunk], s.programmed[at][chunk] = [word]byte(truth), programmed
}

// budget is how many steps there are until the power goes, and at most many.
func budget(t *testing.T, c *nand.Chip) int {
	t.Helper()
	d := c.Clone()
	for n := range many {
		switch err := d.Erase(n % blocks); err {
		case nil, api.ErrFail:
		case api.ErrPower:
			return n
		default:
			t.Fatalf("Erase(%d): %v", n%blocks, err)
		}
	}
	return many
}

// writes is how many writes of a block there are until one fails; many, if none of those that there is room for does.
func writes(t *testing.T, c *nand.Chip, b int) int {
	t.Helper()
	d := c.Clone()
	d.Power()
	if d.Erase(b) != nil {
		d = c.Clone()
		d.Power()
	}
	n := 0
	for i := range pages * chunks {
		switch err := d.Write(b*pages+i/chunks, i%chunks, fill(i)); err {
		case nil:
			n++
		case api.ErrFail:
			return n
		case api.ErrProgrammed:
		default:
			t.Fatalf("Write(%d, %d): %v", b*pages+i/chunks, i%chunks, err)
		}
	}
	return many
}

// apart tells the first thing in which two sights differ.
func apart(got, want *sight) string {
	if got.on != want.on || got.steps != want.steps || got.budget != want.budget {
		return fmt.Sprintf("on %t, %d steps, budget %d, want %t, %d, %d", got.on, got.steps, got.budget, want.on, want.steps, want.budget)
	}
	if got.reads != want.reads || got.failed != want.failed {
		return fmt.Sprintf("reads %d, failed %t, want %d, %t", got.reads, got.failed, want.reads, want.failed)
	}
	if got.writes != want.writes || got.eraseFails != want.eraseFails {
		return fmt.Sprintf("writes that are left %d, erases that fail %t, want %d, %t", got.writes, got.eraseFails, want.writes, want.eraseFails)
	}
	for at := range all {
		if got.now[at] != want.now[at] {
			return fmt.Sprintf("page %d: %x, want %x", at, got.now[at], want.now[at])
		}
		for k := range chunks {
			if got.damage[at][k] != want.damage[at][k] || got.worst[at][k] != want.worst[at][k] {
				return fmt.Sprintf("chunk %d of page %d: damage %d, worst %d, want %d, %d", k, at, got.damage[at][k], got.worst[at][k], want.damage[at][k], want.worst[at][k])
			}
			if got.truth[at][k] != want.truth[at][k] || got.programmed[at][k] != want.programmed[at][k] {
				return fmt.Sprintf("chunk %d of page %d: truth %x, programmed %t, want %x, %t", k, at, got.truth[at][k], got.programmed[at][k], want.truth[at][k], want.programmed[at][k])
			}
		}
	}
	return ""
}

func wantSight(t *testing.T, what string, c *nand.Chip, want *sight) {
	t.Helper()
	if told := apart(see(t, c), want); told != "" {
		t.Errorf("%s: %s", what, told)
	}
}

func wantErr(t *testing.T, what string, got, want error) {
	t.Helper()
	if got != want {
		t.Errorf("%s: %v, want %v", what, got, want)
	}
}

// must is for steps on the way to what is tested.
func must(t *testing.T, err error) {
	t.Helper()
	if err != nil {
		t.Fatalf("on the way: %v", err)
	}
}

func wantWrite(t *testing.T, c *nand.Chip, at, chunk int, b []byte, want error) {
	t.Helper()
	wantErr(t, fmt.Sprintf("Write(%d, %d, %d bytes)", at, chunk, len(b)), c.Write(at, chunk, b), want)
}

func wantErase(t *testing.T, c *nand.Chip, block int, want error) {
	t.Helper()
	wantErr(t, fmt.Sprintf("Erase(%d)", block), c.Erase(block), want)
}

func wantDamage(t *testing.T, c *nand.Chip, at, chunk, damage, worst int) {
	t.Helper()
	if d, w, err := c.Damage(at, chunk); d != damage || w != worst || err != nil {
		t.Errorf("Damage(%d, %d): %d, %d, %v, want %d, %d", at, chunk, d, w, err, damage, worst)
	}
}

func wantTruth(t *testing.T, c *nand.Chip, at, chunk int, truth []byte, programmed bool) {
	t.Helper()
	if b, is, err := c.Truth(at, chunk); !bytes.Equal(b, truth) || is != programmed || err != nil {
		t.Errorf("Truth(%d, %d): %x, %t, %v, want %x, %t", at, chunk, b, is, err, truth, programmed)
	}
}

func wantReads(t *testing.T, c *nand.Chip, block, want int) {
	t.Helper()
	if n, err := c.Reads(block); n != want || err != nil {
		t.Errorf("Reads(%d): %d, %v, want %d", block, n, err, want)
	}
}

func wantFailed(t *testing.T, c *nand.Chip, block int, want bool) {
	t.Helper()
	if is, err := c.Failed(block); is != want || err != nil {
		t.Errorf("Failed(%d): %t, %v, want %t", block, is, err, want)
	}
}

func wantSteps(t *testing.T, c *nand.Chip, want int) {
	t.Helper()
	if n := c.Steps(); n != want {
		t.Errorf("Steps(): %d, want %d", n, want)
	}
}

func wantOn(t *testing.T, c *nand.Chip, want bool) {
	t.Helper()
	if on := c.On(); on != want {
		t.Errorf("On(): %t, want %t", on, want)
	}
}

func wantRead(t *testing.T, c *nand.Chip, at int, want []byte) {
	t.Helper()
	if page, err := c.Read(at); !bytes.Equal(page, want) || err != nil {
		t.Errorf("Read(%d): %x, %v, want %x", at, page, err, want)
	}
}

func wantNoRead(t *testing.T, c *nand.Chip, at int, want error) {
	t.Helper()
	if page, err := c.Read(at); page != nil || err != want {
		t.Errorf("Read(%d): %x, %v, want %v alone", at, page, err, want)
	}
}

// off lets a chip's power go: its budget is 0 at a step that is none.
func off(t *testing.T, c *nand.Chip) {
	t.Helper()
	must(t, c.Cut(0))
	if err := c.Erase(0); err != api.ErrPower || c.On() {
		t.Fatalf("the power doesn't go: %v", err)
	}
}

// failed makes a block fail, at an erase.
func failed(t *testing.T, c *nand.Chip, block int) {
	t.Helper()
	must(t, c.FailErase(block))
	if err := c.Erase(block); err != api.ErrFail {
		t.Fatalf("the block %d doesn't fail: %v", block, err)
	}
}
