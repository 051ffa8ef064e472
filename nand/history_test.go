package nand_test

import (
	"bytes"
	"math"
	"slices"
	"testing"

	"patina/api"
	"patina/nand"
)

// history is a chip told another way: it keeps what happened, and works out from that how things stand.
type history struct {
	on      bool
	cutAt   uint64 // the step at which the power goes
	steps   uint64
	pages   [all][]byte
	was     [all][chunks][][]byte // what a chunk was since its program or its block's erase; the first is its truth
	written [all][chunks]bool
	readAt  [blocks][]int  // the pages of the block's reads
	writes  [blocks]uint64 // of a block, those that were steps
	failAt  [blocks]uint64 // the write that fails
	erase   [blocks]bool   // the next one fails
	failed  [blocks]bool
}

const never = math.MaxUint64

func newHistory() *history {
	h := &history{on: true, cutAt: never}
	for b := range blocks {
		h.failAt[b] = never
	}
	for at := range all {
		h.pages[at] = same(0xff, pageBytes)
		for chunk := range chunks {
			h.was[at][chunk] = [][]byte{same(0xff, word)}
		}
	}
	return h
}

func inside(n, many int) bool { return n >= 0 && n <= many-1 }

func (h *history) read(at int) ([]byte, error) {
	switch {
	case !inside(at, all):
		return nil, api.ErrArg
	case !h.on:
		return nil, api.ErrPower
	}
	h.readAt[at/pages] = append(h.readAt[at/pages], at)
	return h.pages[at], nil
}

func (h *history) step() bool {
	h.on = h.steps < h.cutAt
	if h.on {
		h.steps++
	}
	return h.on
}

func (h *history) write(at, chunk int, b []byte) error {
	switch {
	case !inside(at, all), !inside(chunk, chunks), len(b) != word:
		return api.ErrArg
	case !h.on:
		return api.ErrPower
	case h.written[at][chunk]:
		return api.ErrProgrammed
	case !h.step():
		return api.ErrPower
	}
	n := at / pages
	h.writes[n]++
	if h.failed[n] || h.writes[n] == h.failAt[n] {
		h.failed[n] = true
		return api.ErrFail
	}
	h.lay(at, chunk, b)
	h.written[at][chunk] = true
	return nil
}

// lay begins a chunk's history anew.
func (h *history) lay(at, chunk int, b []byte) {
	h.pages[at] = slices.Concat(h.pages[at][:chunk*word], b, h.pages[at][chunk*word+word:])
	h.was[at][chunk] = [][]byte{slices.Clone(b)}
	h.written[at][chunk] = false
}

func (h *history) eraseBlock(block int) error {
	switch {
	case !inside(block, blocks):
		return api.ErrArg
	case !h.on, !h.step():
		return api.ErrPower
	case h.failed[block], h.erase[block]:
		h.failed[block] = true
		return api.ErrFail
	}
	for at := block * pages; at/pages == block; at++ {
		for chunk := range chunks {
			h.lay(at, chunk, same(0xff, word))
		}
	}
	h.readAt[block] = nil
	return nil
}

func (h *history) flip(at, bit int) error {
	if !inside(at, all) || !inside(bit, bits) {
		return api.ErrArg
	}
	h.pages[at] = slices.Clone(h.pages[at])
	h.pages[at][bit/8] ^= 1 << (bit % 8)
	chunk := bit / 512
	h.was[at][chunk] = append(h.was[at][chunk], slices.Clone(h.pages[at][chunk*word:chunk*word+word]))
	return nil
}

func (h *history) failProgram(block, after int) error {
	if !inside(block, blocks) || after < 0 {
		return api.ErrArg
	}
	h.failAt[block] = h.writes[block] + uint64(after) + 1
	return nil
}

func (h *history) failErase(block int) error {
	if !inside(block, blocks) {
		return api.ErrArg
	}
	h.erase[block] = true
	return nil
}

func (h *history) cut(budget int) error {
	if budget < 0 {
		return api.ErrArg
	}
	if h.on {
		h.cutAt = h.steps + uint64(budget)
	}
	return nil
}

func (h *history) power() { h.on, h.cutAt = true, never }

// damage is told of each version of a chunk, from its truth on: the last, and the most.
func (h *history) damage(at, chunk int) (int, int) {
	last, most := 0, 0
	truth := h.was[at][chunk][0]
	for _, b := range h.was[at][chunk] {
		last = 0
		for i := range b {
			if b[i] != truth[i] {
				last++
			}
		}
		most = max(most, last)
	}
	return last, most
}

// sight is how a chip of that history is seen.
func (h *history) sight() *sight {
	s := &sight{on: h.on, steps: int(h.steps)}
	if h.on {
		s.budget = int(min(h.cutAt-h.steps, many))
	}
	for b := range blocks {
		s.reads[b] = len(h.readAt[b])
		s.failed[b] = h.failed[b]
		s.eraseFails[b] = h.failed[b] || h.erase[b]
		s.writes[b] = h.left(b)
	}
	for at := range all {
		s.now[at] = [pageBytes]byte(h.pages[at])
		for chunk := range chunks {
			s.damage[at][chunk], s.worst[at][chunk] = h.damage(at, chunk)
			s.truth[at][chunk] = [word]byte(h.was[at][chunk][0])
			s.programmed[at][chunk] = h.written[at][chunk]
		}
	}
	return s
}

// left is how many writes of a block are left until one fails, as far as there is room to find that out.
func (h *history) left(b int) int {
	room := pages * chunks
	if h.failed[b] || h.erase[b] {
		for at := b * pages; at/pages == b; at++ {
			for chunk := range chunks {
				if h.written[at][chunk] {
					room--
				}
			}
		}
	}
	n := h.failAt[b] - h.writes[b] - 1
	if h.failed[b] {
		n = 0
	}
	if n >= uint64(room) {
		return many
	}
	return int(n)
}

// dice are numbers that hang on a seed alone.
type dice struct{ state uint64 }

func (d *dice) below(n int) int {
	d.state = d.state*6364136223846793005 + 1442695040888963407
	return int((d.state >> 33) % uint64(n))
}

// near is a number of 0 to n - 1, now and then one outside.
func (d *dice) near(n int) int {
	if d.below(30) == 0 {
		wrong := outside(n)
		return wrong[d.below(len(wrong))]
	}
	return d.below(n)
}

// page is near one of a few pages, so that much happens to the same ones.
func (d *dice) page() int {
	if d.below(4) > 0 {
		return []int{0, 1, 7, 8, 95}[d.below(5)]
	}
	return d.near(all)
}

// turn does one thing to both, and wants the same answers.
func (d *dice) turn(t *testing.T, c *nand.Chip, h *history) {
	t.Helper()
	at, chunk, block := d.page(), d.near(chunks), d.page()/pages
	if d.below(30) == 0 {
		block = d.near(blocks)
	}
	switch d.below(16) {
	case 0, 1, 2, 3:
		b := fill(d.below(1000))[:64-max(0, d.below(40)-38)]
		wantErr(t, "Write", c.Write(at, chunk, b), h.write(at, chunk, b))
	case 4, 5:
		page, err := c.Read(at)
		want, wanted := h.read(at)
		if !bytes.Equal(page, want) || err != wanted {
			t.Errorf("Read(%d): %x, %v, want %x, %v", at, page, err, want, wanted)
		}
	case 6:
		wantErr(t, "Erase", c.Erase(block), h.eraseBlock(block))
	case 7, 8, 9, 10, 11:
		bit := d.near(bits)
		if d.below(3) > 0 {
			bit = bit / 256 * 256
		}
		wantErr(t, "Flip", c.Flip(at, bit), h.flip(at, bit))
	case 12:
		after := d.near(40)
		wantErr(t, "FailProgram", c.FailProgram(block, after), h.failProgram(block, after))
	case 13:
		if d.below(6) == 0 {
			wantErr(t, "FailErase", c.FailErase(block), h.failErase(block))
		}
	case 14:
		n := d.near(20)
		wantErr(t, "Cut", c.Cut(n), h.cut(n))
	case 15:
		c.Power()
		h.power()
	}
}

// TestHistories: chips to which all kinds of things happen stand as their histories tell.
func TestHistories(t *testing.T) {
	for seed := range 60 {
		d := &dice{state: uint64(seed)}
		c, h := nand.New(), newHistory()
		for range 30 {
			for range 12 {
				d.turn(t, c, h)
			}
			wantSight(t, "behind a history", c, h.sight())
			if d.below(4) == 0 {
				c = c.Clone()
			}
			if t.Failed() {
				t.Fatalf("the history of the seed %d", seed)
			}
		}
	}
}

// TestWhatFollows: a page differs from its truths in as many bytes as their damages say; without flips in none.
func TestWhatFollows(t *testing.T) {
	for seed := range 20 {
		d := &dice{state: uint64(seed)}
		c, h := nand.New(), newHistory()
		for range 600 {
			d.turn(t, c, h)
		}
		c.Power()
		for at := range all {
			wantApart(t, c, at)
		}
	}
	c := nand.New()
	for i := range all * chunks {
		if i%3 > 0 {
			must(t, c.Write(i/chunks, i%chunks, fill(i)))
		}
	}
	must(t, c.Erase(5))
	for at := range all {
		var truths []byte
		for chunk := range chunks {
			truth, _, err := c.Truth(at, chunk)
			must(t, err)
			truths = append(truths, truth...)
		}
		wantRead(t, c, at, truths)
	}
}

func wantApart(t *testing.T, c *nand.Chip, at int) {
	t.Helper()
	page, err := c.Read(at)
	must(t, err)
	for chunk := range chunks {
		truth, _, err := c.Truth(at, chunk)
		must(t, err)
		n := 0
		for i := range truth {
			if truth[i] != page[chunk*word+i] {
				n++
			}
		}
		damage, worst, err := c.Damage(at, chunk)
		if damage != n || worst < n || err != nil {
			t.Errorf("Damage(%d, %d): %d, %d, %v; it reads otherwise in %d bytes", at, chunk, damage, worst, err, n)
		}
	}
}
