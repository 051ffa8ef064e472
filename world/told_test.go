package world_test

import (
	"bytes"
	"slices"

	"patina/api"
	"patina/claim"
	"patina/nand"
	"patina/point"
	"patina/rs"
	"patina/tag"
)

// What lies on a chip, told by its truths: a second reading beside the package's own, by the codec of layer 2.

// theMark is the one behind a tag's body.
const theMark = "patina01"

// codec tells codewords.
var codec = rs.New()

// messageAt is the message of the codeword that a chunk was programmed with; nil: with none.
func messageAt(chip *nand.Chip, place, chunk int) []byte {
	word, is, err := chip.Truth(place, chunk)
	if err != nil || !is {
		return nil
	}
	if syndromes, err := codec.Syndromes(word); err != nil || !bytes.Equal(syndromes, make([]byte, 6)) {
		return nil
	}
	return word[:58]
}

// number is the number of bytes with the lowest first.
func number(b []byte) int64 {
	var n int64
	for i := len(b) - 1; i >= 0; i-- {
		n = n<<8 | int64(b[i])
	}
	return n
}

// tagAt is the tag that a page was programmed with as its own; false: with none.
func tagAt(chip *nand.Chip, place int) (api.Tag, bool) {
	m := messageAt(chip, place, 3)
	if m == nil || string(m[50:]) != theMark {
		return api.Tag{}, false
	}
	t := api.Tag{Place: int(number(m[:2])), Of: int(m[2]), Seq: number(m[3:8]), Copy: int(m[8]), Lost: m[9] == 1}
	body, err := tag.Encode(t)
	return t, err == nil && bytes.Equal(body, m[:50]) && t.Place == place
}

// sight is what is seen of a chip: the newest checkpoint, where it lies, and where what counts lies.
type sight struct {
	tags    []api.Found
	point   api.Checkpoint
	pointed bool
	live    [25]int
}

// seen is what is seen of a chip.
func seen(chip *nand.Chip) sight {
	var g sight
	for place := range 96 {
		if tag, is := tagAt(chip, place); is {
			g.tags = append(g.tags, api.Found{Place: place, Tag: tag})
		}
	}
	if at, is := claim.Newest(g.tags, 24, -1); is {
		var data []byte
		for chunk := range 3 {
			data = append(data, messageAt(chip, at.Place, chunk)...)
		}
		k, err := point.Read(data)
		g.point, g.pointed = k, err == nil
	}
	if !g.pointed {
		g.tags = nil
	}
	g.live = claim.Live(g.tags, g.point)
	return g
}

// numberAt is the number that counts at a place; -1: none does.
func (g sight) numberAt(place int) int { return slices.Index(g.live[:], place) }

// bears is how many damaged bytes of a page's chunk leave the world as it is: neither Broken nor any mark other than Whole.
func (g sight) bears(place, chunk int) int {
	of := g.numberAt(place)
	switch {
	case of >= 0:
		return 2
	case chunk == 3:
		return 4
	}
	return 64
}

// breaks is how many damaged bytes of a page's chunk make the world Broken; 65: none do.
func (g sight) breaks(place, chunk int) int {
	of := g.numberAt(place)
	switch {
	case of == 24, of >= 0 && chunk == 3:
		return 3
	case chunk == 3:
		return 5
	}
	return 65
}

// isBroken tells whether some page has borne more than it may.
func isBroken(chip *nand.Chip, g sight) bool {
	for place := range 96 {
		for chunk := range 4 {
			if worstOf(chip, place, chunk) >= g.breaks(place, chunk) {
				return true
			}
		}
	}
	return false
}

// isWorn tells whether three blocks have failed or are bad.
func isWorn(chip *nand.Chip, g sight) bool {
	many := 0
	for block := range 12 {
		if failed, _ := chip.Failed(block); failed || g.point.Bad[block] {
			many++
		}
	}
	return many >= 3
}

// markOf is a sector's mark by what its page has borne.
func markOf(chip *nand.Chip, g sight, of int) int {
	if g.live[of] < 0 {
		return 0
	}
	most := 0
	for chunk := range 3 {
		most = max(most, worstOf(chip, g.live[of], chunk))
	}
	return []int{0, 0, 0, 1, 1, 2}[min(most, 5)]
}

// worstOf is the most damaged bytes that a chunk ever had.
func worstOf(chip *nand.Chip, place, chunk int) int {
	_, worst, _ := chip.Damage(place, chunk)
	return worst
}

// damageOf is the most damaged bytes that one of a page's chunks has now.
func damageOf(chip *nand.Chip, place int) int {
	most := 0
	for chunk := range 4 {
		damage, _, _ := chip.Damage(place, chunk)
		most = max(most, damage)
	}
	return most
}

// readsOf is how often each block of a chip was read since its erase.
func readsOf(chip *nand.Chip) (out [12]int) {
	for block := range out {
		out[block], _ = chip.Reads(block)
	}
	return out
}

// wasErased tells whether a block was erased between two sights of a chip: something that was programmed there isn't any more.
func wasErased(was, is *nand.Chip, block int) bool {
	for place := 8 * block; place < 8*block+8; place++ {
		for chunk := range 4 {
			before, programmed, _ := was.Truth(place, chunk)
			behind, _, _ := is.Truth(place, chunk)
			if programmed && !bytes.Equal(before, behind) {
				return true
			}
		}
	}
	return false
}

// stepOf are the eight places from a cursor on, round and round.
func stepOf(cursor int) []int {
	var places []int
	for i := range 8 {
		places = append(places, (cursor+i)%96)
	}
	return places
}

// bytesOf are all bytes of a chip as they are now, with the power on or off.
func bytesOf(chip *nand.Chip) []byte {
	chip = chip.Clone()
	chip.Power()
	var all []byte
	for place := range 96 {
		page, _ := chip.Read(place)
		all = append(all, page...)
	}
	return all
}

// sameChip tells whether two chips stand alike, in all that they tell.
func sameChip(a, b *nand.Chip) bool {
	if !bytes.Equal(bytesOf(a), bytesOf(b)) {
		return false
	}
	for place := range 96 {
		for chunk := range 4 {
			wordA, isA, _ := a.Truth(place, chunk)
			wordB, isB, _ := b.Truth(place, chunk)
			damageA, worstA, _ := a.Damage(place, chunk)
			damageB, worstB, _ := b.Damage(place, chunk)
			if !bytes.Equal(wordA, wordB) || isA != isB || damageA != damageB || worstA != worstB {
				return false
			}
		}
	}
	for block := range 12 {
		failedA, _ := a.Failed(block)
		failedB, _ := b.Failed(block)
		if failedA != failedB {
			return false
		}
	}
	return a.Steps() == b.Steps() && a.On() == b.On() && readsOf(a) == readsOf(b)
}

// source gives numbers that hang on its start alone.
type source uint64

func (s *source) below(n int) int {
	*s = *s*6364136223846793005 + 1442695040888963407
	return int(uint64(*s) >> 33 % uint64(n))
}
