package mount_test

import (
	"slices"
	"testing"

	"patina/api"
	"patina/claim"
	"patina/nand"
	"patina/point"
)

// What lies on a chip, and how a mount of it is to stand, told by its truths and the layers below.

// theMark is the one behind a tag's body.
const theMark = "patina01"

// number is the number of bytes with the lowest first.
func number(b []byte) int64 {
	var n int64
	for i := len(b) - 1; i >= 0; i-- {
		n = n<<8 | int64(b[i])
	}
	return n
}

// tagAt is the tag that a page was programmed with; false: with none.
func tagAt(chip *nand.Chip, place int) (api.Tag, bool) {
	word, is, err := chip.Truth(place, 3)
	if err != nil || !is || string(word[50:58]) != theMark {
		return api.Tag{}, false
	}
	t := api.Tag{Place: int(number(word[:2])), Of: int(word[2]), Seq: number(word[3:8]), Copy: int(word[8]), Lost: word[9] == 1}
	return t, t.Place == place
}

// tagsOf are the tags of all pages that were programmed whole.
func tagsOf(chip *nand.Chip) []api.Found {
	var l []api.Found
	for place := range 96 {
		if t, is := tagAt(chip, place); is {
			l = append(l, api.Found{Place: place, Tag: t})
		}
	}
	return l
}

// dataAt are the 174 bytes that a page was programmed with.
func dataAt(t *testing.T, chip *nand.Chip, place int) []byte {
	t.Helper()
	var data []byte
	for chunk := range 3 {
		word, is, err := chip.Truth(place, chunk)
		if err != nil || !is {
			t.Fatalf("the page %d has no data", place)
		}
		data = append(data, word[:58]...)
	}
	return data
}

// sight is what is seen of a chip: its tags, the newest checkpoint, and where what counts lies. Without a checkpoint there is a zero one, and nothing counts.
type sight struct {
	tags    []api.Found
	pointed bool
	point   api.Checkpoint
	live    [25]int
}

// seen is what is seen of a chip.
func seen(t *testing.T, chip *nand.Chip) sight {
	t.Helper()
	g := sight{tags: tagsOf(chip)}
	at, pointed := claim.Newest(g.tags, 24, -1)
	if !pointed {
		return sight{live: nowhere()}
	}
	k, err := point.Read(dataAt(t, chip, at.Place))
	if err != nil {
		t.Fatalf("the checkpoint at %d can't be read: %v", at.Place, err)
	}
	g.pointed, g.point, g.live = true, k, claim.Live(g.tags, k)
	return g
}

// newView is how a mount of a new chip is to stand.
func newView() api.View {
	v := api.View{Next: 2, Live: nowhere()}
	v.States[0], v.Live[24], v.Reads[0] = api.Open, 0, 1
	return v
}

// viewOf is how a mount is to stand of a chip on which such things are seen, and none of whose blocks fails then.
func viewOf(g sight) api.View {
	if !g.pointed {
		return newView()
	}
	v := api.View{Next: claim.Next(g.tags, g.point), Live: g.live, Cursor: g.point.Cursor, Scores: g.point.Scores}
	for block, live := range livesOf(v) {
		switch {
		case g.point.Bad[block]:
			v.States[block] = api.Bad
		case live > 0:
			v.States[block] = api.Full
		default:
			continue // it is free, and its erase lets its reads begin again
		}
		v.Reads[block] = min(g.point.Reads[block]+8, 65535)
	}
	return v
}

// nowhere is where nothing lies.
func nowhere() (live [25]int) {
	for of := range live {
		live[of] = -1
	}
	return live
}

// isErased tells whether no chunk of a block is programmed, and no bit of it turned.
func isErased(chip *nand.Chip, block int) bool {
	for place := 8 * block; place < 8*block+8; place++ {
		for chunk := range 4 {
			_, is, _ := chip.Truth(place, chunk)
			damage, _, _ := chip.Damage(place, chunk)
			if is || damage > 0 {
				return false
			}
		}
	}
	return true
}

// failedOf tells which blocks of a chip have failed.
func failedOf(chip *nand.Chip) (out [12]bool) {
	for block := range out {
		out[block], _ = chip.Failed(block)
	}
	return out
}

// readsOf is how often each block of a chip was read.
func readsOf(chip *nand.Chip) (out [12]int) {
	for block := range out {
		out[block], _ = chip.Reads(block)
	}
	return out
}

// count is how many blocks have a state.
func count(states [12]int, state int) int {
	many := 0
	for _, s := range states {
		if s == state {
			many++
		}
	}
	return many
}

// boundOf is how many blocks must be free, with so many bad.
func boundOf(bad int) int { return []int{5, 3, 1, 0, 0, 0, 0, 0, 0, 0, 0, 0, 0}[bad] }

// livesOf is how many numbers of a view lie in each block.
func livesOf(v api.View) (out [12]int) {
	for _, place := range v.Live {
		if place >= 0 {
			out[place/8]++
		}
	}
	return out
}

// inBlock are the numbers of a view that lie in a block, by rising place.
func inBlock(v api.View, block int) []int {
	var in []int
	for place := 8 * block; place < 8*block+8; place++ {
		if of := slices.Index(v.Live[:], place); of >= 0 {
			in = append(in, of)
		}
	}
	return in
}

// wantSameChip holds two chips to stand alike in all that lies there, their reads aside.
func wantSameChip(t *testing.T, a, b *nand.Chip) {
	t.Helper()
	for place := range 96 {
		for chunk := range 4 {
			wordA, isA, _ := a.Truth(place, chunk)
			wordB, isB, _ := b.Truth(place, chunk)
			damageA, worstA, _ := a.Damage(place, chunk)
			damageB, worstB, _ := b.Damage(place, chunk)
			if !slices.Equal(wordA, wordB) || isA != isB || damageA != damageB || worstA != worstB {
				t.Fatalf("the chunk %d of the page %d stands otherwise", chunk, place)
			}
		}
	}
	if a.Steps() != b.Steps() || a.On() != b.On() || failedOf(a) != failedOf(b) {
		t.Fatal("the chips stand otherwise")
	}
}

// source gives numbers that hang on its start alone.
type source uint64

func (s *source) below(n int) int {
	*s = *s*6364136223846793005 + 1442695040888963407
	return int(uint64(*s) >> 33 % uint64(n))
}

// text are 160 bytes of a sector, each time others.
func text(of, turn int) []byte {
	b := make([]byte, 160)
	for i := range b {
		b[i] = byte(of*37 + turn*101 + i*(turn%7+1))
	}
	b[0], b[1], b[2] = byte(of+1), byte(turn), byte(turn>>8)
	return b
}

// off takes a chip's power.
func off(t *testing.T, chip *nand.Chip) {
	t.Helper()
	chip.Cut(0)
	chip.Erase(0)
	if chip.On() {
		t.Fatal("the power is on")
	}
}
