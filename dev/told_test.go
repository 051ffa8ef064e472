package dev_test

import (
	"slices"
	"testing"

	"patina/api"
	"patina/claim"
	"patina/nand"
	"patina/point"
)

// What lies on a chip, told by its truths and the layers below, without a device.

// theMark is the one behind a tag's body.
const theMark = "patina01"

// number is the number of bytes with the lowest first.
func number(b []byte) int64 {
	var n int64
	for i := len(b) - 1; i >= 0; i-- {
		n = n<<8 | int64(b[i])
	}
	return n
}

// tagAt is the tag that a page was programmed with; false: with none.
func tagAt(chip *nand.Chip, place int) (api.Tag, bool) {
	word, is, err := chip.Truth(place, 3)
	if err != nil || !is || string(word[50:58]) != theMark {
		return api.Tag{}, false
	}
	t := api.Tag{Place: int(number(word[:2])), Of: int(word[2]), Seq: number(word[3:8]), Copy: int(word[8]), Lost: word[9] == 1}
	return t, t.Place == place
}

// dataAt are the 174 bytes that a page was programmed with.
func dataAt(t *testing.T, chip *nand.Chip, place int) []byte {
	t.Helper()
	var data []byte
	for chunk := range 3 {
		word, is, err := chip.Truth(place, chunk)
		if err != nil || !is {
			t.Fatalf("the page %d has no data", place)
		}
		data = append(data, word[:58]...)
	}
	return data
}

// sight is what is seen of a chip: its tags, the newest checkpoint, and where what counts lies. Without a checkpoint there is a zero one, and nothing counts.
type sight struct {
	tags  []api.Found
	point api.Checkpoint
	live  [25]int
}

// seen is what is seen of a chip.
func seen(t *testing.T, chip *nand.Chip) sight {
	t.Helper()
	var g sight
	for place := range 96 {
		if tag, is := tagAt(chip, place); is {
			g.tags = append(g.tags, api.Found{Place: place, Tag: tag})
		}
	}
	at, pointed := claim.Newest(g.tags, 24, -1)
	if !pointed {
		return sight{live: claim.Live(nil, api.Checkpoint{})}
	}
	k, err := point.Read(dataAt(t, chip, at.Place))
	if err != nil {
		t.Fatalf("the checkpoint at %d can't be read: %v", at.Place, err)
	}
	g.point, g.live = k, claim.Live(g.tags, k)
	return g
}

// worstOf is the greatest worst of a page's chunks from one to another.
func worstOf(chip *nand.Chip, place, from, to int) int {
	most := 0
	for chunk := from; chunk <= to; chunk++ {
		_, worst, _ := chip.Damage(place, chunk)
		most = max(most, worst)
	}
	return most
}

// damageOf is the greatest damage of a page's chunks.
func damageOf(chip *nand.Chip, place int) int {
	most := 0
	for chunk := range 4 {
		damage, _, _ := chip.Damage(place, chunk)
		most = max(most, damage)
	}
	return most
}

// isErased tells whether no chunk of a block is programmed.
func isErased(chip *nand.Chip, block int) bool {
	for place := 8 * block; place < 8*block+8; place++ {
		for chunk := range 4 {
			if _, is, _ := chip.Truth(place, chunk); is {
				return false
			}
		}
	}
	return true
}

// taken is how many pages of a block are programmed.
func taken(chip *nand.Chip, block int) int {
	many := 0
	for place := 8 * block; block >= 0 && place < 8*block+8; place++ {
		if _, is := tagAt(chip, place); is {
			many++
		}
	}
	return many
}

// failedOf tells which blocks of a chip have failed.
func failedOf(chip *nand.Chip) (out [12]bool) {
	for block := range out {
		out[block], _ = chip.Failed(block)
	}
	return out
}

// readsOf is how often each block of a chip was read.
func readsOf(chip *nand.Chip) (out [12]int) {
	for block := range out {
		out[block], _ = chip.Reads(block)
	}
	return out
}

// count is how many blocks have a state.
func count(states [12]int, state int) int {
	many := 0
	for _, s := range states {
		if s == state {
			many++
		}
	}
	return many
}

// boundOf is how many blocks must be free, with so many bad.
func boundOf(bad int) int { return []int{5, 3, 1, 0, 0, 0, 0, 0, 0, 0, 0, 0, 0}[bad] }

// inBlock are the numbers of a view that lie in a block, by rising place.
func inBlock(v api.View, block int) []int {
	var in []int
	for place := 8 * block; place < 8*block+8; place++ {
		if of := slices.Index(v.Live[:], place); of >= 0 {
			in = append(in, of)
		}
	}
	return in
}

// stepOf are the eight places from a cursor on, round and round.
func stepOf(cursor int) []int {
	var places []int
	for i := range 8 {
		places = append(places, (cursor+i)%96)
	}
	return places
}

// wantSameChip holds two chips to stand alike, their reads too.
func wantSameChip(t *testing.T, a, b *nand.Chip) {
	t.Helper()
	for place := range 96 {
		for chunk := range 4 {
			wordA, isA, _ := a.Truth(place, chunk)
			wordB, isB, _ := b.Truth(place, chunk)
			damageA, worstA, _ := a.Damage(place, chunk)
			damageB, worstB, _ := b.Damage(place, chunk)
			if !slices.Equal(wordA, wordB) || isA != isB || damageA != damageB || worstA != worstB {
				t.Fatalf("the chunk %d of the page %d stands otherwise", chunk, place)
			}
		}
	}
	if a.Steps() != b.Steps() || a.On() != b.On() || failedOf(a) != failedOf(b) || readsOf(a) != readsOf(b) {
		t.Fatalf("the chips stand otherwise: %d steps and %d, reads %v and %v", a.Steps(), b.Steps(), readsOf(a), readsOf(b))
	}
}

// off takes a chip's power.
func off(t *testing.T, chip *nand.Chip) {
	t.Helper()
	chip.Cut(0)
	chip.Erase(0)
	if chip.On() {
		t.Fatal("the power is on")
	}
}

// source gives numbers that hang on its start alone.
type source uint64

func (s *source) below(n int) int {
	*s = *s*6364136223846793005 + 1442695040888963407
	return int(uint64(*s) >> 33 % uint64(n))
}

// text are 160 bytes of a sector, each time others.
func text(of, turn int) []byte {
	b := make([]byte, 160)
	for i := range b {
		b[i] = byte(of*37 + turn*101 + i*(turn%7+1))
	}
	b[0], b[1], b[2] = byte(of+1), byte(turn), byte(turn>>8)
	return b
}
