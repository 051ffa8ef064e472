package media_test

import (
	"fmt"
	"testing"

	"patina/nand"
)

// sight is what can be found out of a chip without a change of it.
type sight struct {
	on     bool
	steps  int
	blocks [blocks]blockSight
	chunks [all][chunks]chunkSight
	now    [all][pageSize]byte
	ahead  [32]error // what the next erases answer: it tells the budget
}

type blockSight struct {
	reads  int
	failed bool
	erase  error     // what the next one answers, with the power on
	writes [32]error // and what the next writes answer, behind it
}

type chunkSight struct {
	damage, worst int
	truth         [wordSize]byte
	programmed    bool
}

// see looks at a chip; what would change it is asked of its clones.
func see(t *testing.T, c *nand.Chip) *sight {
	t.Helper()
	s := &sight{on: c.On(), steps: c.Steps()}
	for b := range blocks {
		s.blocks[b] = seeBlock(t, c, b)
	}
	d := c.Clone()
	d.Power()
	for at := range all {
		page, err := d.Read(at)
		must(t, err)
		s.now[at] = [pageSize]byte(page)
		for chunk := range chunks {
			s.chunks[at][chunk] = seeChunk(t, c, at, chunk)
		}
	}
	d = c.Clone()
	for n := range s.ahead {
		s.ahead[n] = d.Erase(n % blocks)
	}
	return s
}

func seeBlock(t *testing.T, c *nand.Chip, b int) blockSight {
	t.Helper()
	var s blockSight
	var err error
	s.reads, err = c.Reads(b)
	must(t, err)
	s.failed, err = c.Failed(b)
	must(t, err)
	d := c.Clone()
	d.Power()
	s.erase = d.Erase(b)
	for i := range s.writes {
		s.writes[i] = d.Write(b*pages+i/chunks, i%chunks, make([]byte, wordSize))
	}
	return s
}

func seeChunk(t *testing.T, c *nand.Chip, at, chunk int) chunkSight {
	t.Helper()
	var s chunkSight
	var err error
	s.damage, s.worst, err = c.Damage(at, chunk)
	must(t, err)
	truth, programmed, err := c.Truth(at, chunk)
	must(t, err)
	s.truth, s.programmed = [wordSize]byte(truth), programmed
	return s
}

// apart tells the first thing in which two sights differ.
func apart(got, want *sight) string {
	if got.on != want.on || got.steps != want.steps || got.ahead != want.ahead {
		return fmt.Sprintf("on %t, %d steps, next %v, want %t, %d, %v", got.on, got.steps, got.ahead, want.on, want.steps, want.ahead)
	}
	for b := range blocks {
		if got.blocks[b] != want.blocks[b] {
			return fmt.Sprintf("block %d: %+v, want %+v", b, got.blocks[b], want.blocks[b])
		}
	}
	for at := range all {
		if got.now[at] != want.now[at] {
			return fmt.Sprintf("page %d: % x, want % x", at, got.now[at], want.now[at])
		}
		for k := range chunks {
			if got.chunks[at][k] != want.chunks[at][k] {
				return fmt.Sprintf("chunk %d of page %d: %+v, want %+v", k, at, got.chunks[at][k], want.chunks[at][k])
			}
		}
	}
	return ""
}

// wantSight holds a chip against how it is to stand.
func wantSight(t *testing.T, what string, c *nand.Chip, want *sight) {
	t.Helper()
	if told := apart(see(t, c), want); told != "" {
		t.Errorf("%s: %s", what, told)
	}
}

// wantAlike holds two chips against each other.
func wantAlike(t *testing.T, what string, c, d *nand.Chip) {
	t.Helper()
	wantSight(t, what, c, see(t, d))
}
