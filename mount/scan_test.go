package mount_test

import (
	"slices"
	"testing"

	"patina/api"
	"patina/mount"
	"patina/nand"
	"patina/rs"
	"patina/wire"
)

// P18.1: which founds a chip has, by rising place; each page is read once.

// wantScan scans a chip, which reads each page once and changes nothing else.
func wantScan(t *testing.T, chip *nand.Chip, want []api.Found) {
	t.Helper()
	was, reads := chip.Clone(), readsOf(chip)
	got, err := mount.Scan(chip)
	if err != nil || !slices.Equal(got, want) {
		t.Fatalf("Scan: %v, %v, want %v", got, err, want)
	}
	wantSameChip(t, chip, was)
	for block, many := range readsOf(chip) {
		if many != reads[block]+8 {
			t.Errorf("the block %d was read %d times", block, many-reads[block])
		}
	}
}

func TestScanOfNoChip(t *testing.T) {
	if l, err := mount.Scan(nil); l != nil || err != api.ErrArg {
		t.Errorf("Scan(nil): %v, %v", l, err)
	}
}

func TestScanOfANewChip(t *testing.T) {
	wantScan(t, nand.New(), nil)
}

func TestScanWithoutPower(t *testing.T) {
	full := nand.New()
	laySector(t, full, 0, 3, 1)
	for _, chip := range []*nand.Chip{nand.New(), full} {
		off(t, chip)
		was, reads := chip.Clone(), readsOf(chip)
		if l, err := mount.Scan(chip); l != nil || err != api.ErrPower {
			t.Errorf("Scan: %v, %v", l, err)
		}
		wantSameChip(t, chip, was)
		if readsOf(chip) != reads {
			t.Error("it was read without power")
		}
		chip.Power()
		wantScan(t, chip, tagsOf(chip))
	}
}

// A budget is one of steps: reads aren't.
func TestScanWithABudgetOfNothing(t *testing.T) {
	chip := nand.New()
	laySector(t, chip, 17, 3, 1)
	chip.Cut(0)
	wantScan(t, chip, []api.Found{{Place: 17, Tag: api.Tag{Place: 17, Of: 3, Seq: 1}}})
	if !chip.On() {
		t.Error("the power went")
	}
}

// Pages of every kind, laid from the last place to the first.
func TestScanOfEveryKind(t *testing.T) {
	chip := nand.New()
	tags := []api.Tag{
		{Place: 95, Of: 24, Seq: 7, Copy: 255},
		{Place: 94, Of: 24, Seq: 1<<40 - 1},
		{Place: 93, Of: 23, Seq: 1<<40 - 1, Copy: 128, Lost: true},
		{Place: 88, Of: 0, Seq: 1},
		{Place: 46, Of: 24, Seq: 2},
		{Place: 45, Of: 0, Seq: 1, Copy: 1}, // a copy of what lies at 88
		{Place: 40, Of: 24, Seq: 2, Copy: 1},
		{Place: 20, Of: 11, Seq: 258, Lost: true},
		{Place: 1, Of: 11, Seq: 257},
		{Place: 0, Of: 24, Seq: 3},
	}
	var want []api.Found
	for _, mark := range tags {
		lay(t, chip, mark, text(mark.Of, 1))
		want = append([]api.Found{{Place: mark.Place, Tag: mark}}, want...)
	}
	wantScan(t, chip, want)
	wantScan(t, chip, want)
	clone := chip.Clone()
	clone.Erase(5)
	wantScan(t, clone, slices.DeleteFunc(slices.Clone(want), func(f api.Found) bool { return f.Place/8 == 5 }))
	wantScan(t, chip, want)
}

// A page at each place of the chip, checkpoints where no sector may lie.
func TestScanOfAFullChip(t *testing.T) {
	chip := nand.New()
	var want []api.Found
	for place := range 96 {
		mark := api.Tag{Place: place, Of: place % 24, Seq: int64(1000 - place), Copy: place}
		if place%8 > 5 {
			mark.Of = 24
		}
		lay(t, chip, mark, text(1, place))
		want = append(want, api.Found{Place: place, Tag: mark})
	}
	wantScan(t, chip, want)
}

// A page whose programming was cut off behind each chunk: with the tag, the last one, it is found, whatever data it has.
func TestScanOfPagesThatWereCutOff(t *testing.T) {
	chip := nand.New()
	mark := func(place int) api.Tag { return api.Tag{Place: place, Of: 5, Seq: 9} }
	for many := range 4 {
		layChunks(t, chip, 8*many, chunksOf(t, mark(8*many), text(5, 9)), []int{0, 1, 2}[:many]...)
	}
	wantScan(t, chip, nil)
	layChunks(t, chip, 32, chunksOf(t, mark(32), text(5, 9)), 0, 1, 2, 3)
	layChunks(t, chip, 33, chunksOf(t, mark(33), text(5, 9)), 3)
	layChunks(t, chip, 34, chunksOf(t, mark(34), text(5, 9)), 0, 3)
	wantScan(t, chip, []api.Found{{Place: 32, Tag: mark(32)}, {Place: 33, Tag: mark(33)}, {Place: 34, Tag: mark(34)}})
	// And as the power itself cuts them.
	for budget := range 5 {
		chip := nand.New()
		chip.Cut(budget)
		chunks := chunksOf(t, mark(72), text(5, 9))
		for i, chunk := range chunks {
			chip.Write(72, i, chunk)
		}
		chip.Power()
		wantScan(t, chip, []api.Found{{Place: 72, Tag: mark(72)}}[:budget/4])
	}
}

// Damage of each number of bytes, in each chunk: the tag's up to two are put right, with three or four it can't be read; the data's change nothing.
func TestScanOfDamagedPages(t *testing.T) {
	chip := nand.New()
	var want []api.Found
	for many := range 5 {
		for chunk := range 4 {
			mark := api.Tag{Place: 8*many + chunk, Of: 10 + chunk, Seq: int64(many + 1)}
			lay(t, chip, mark, text(1, many))
			hurt(chip, mark.Place, chunk, many)
			if damage, _, _ := chip.Damage(mark.Place, chunk); damage != many {
				t.Fatalf("the damage is %d, not %d", damage, many)
			}
			if chunk < 3 || many <= 2 {
				want = append(want, api.Found{Place: mark.Place, Tag: mark})
			}
		}
	}
	for place := 64; place < 96; place++ {
		for chunk := range 4 {
			hurt(chip, place, chunk, place%5)
		}
	}
	wantScan(t, chip, want)
}

// What bears no tag that may be at that page isn't found: a page's chunks at another one, a codeword without the mark, one of no tag that may be.
func TestScanOfWhatIsNoTag(t *testing.T) {
	chip := nand.New()
	layChunks(t, chip, 12, chunksOf(t, api.Tag{Place: 13, Of: 5, Seq: 9}, nil), 0, 1, 2, 3)
	codec := rs.New()
	for i, body := range [][]byte{
		{20, 0, 3, 0, 0, 0, 0, 0, 0, 0},  // its seq is 0
		{21, 0, 25, 1, 0, 0, 0, 0, 0, 0}, // there is no such number
		{22, 0, 3, 1, 0, 0, 0, 0, 0, 0},  // no sector may lie there
		{23, 0, 24, 1, 0, 0, 0, 0, 0, 1}, // a checkpoint isn't lost
		{24, 0, 3, 1, 0, 0, 0, 0, 0, 2},
		{25, 0, 3, 1, 0, 0, 0, 0, 0, 0, 1},
	} {
		sealed, err := wire.Seal(append(body, make([]byte, 50-len(body))...))
		if err != nil {
			t.Fatal(err)
		}
		word, err := codec.Encode(sealed)
		if err != nil {
			t.Fatal(err)
		}
		chip.Write(20+i, 3, word)
	}
	word, _ := codec.Encode(append(append([]byte{32, 0, 3, 1}, make([]byte, 46)...), "patina02"...))
	chip.Write(32, 3, word)
	chip.Write(33, 3, make([]byte, 64))
	for place := 20; place < 26; place++ {
		if _, is, _ := chip.Truth(place, 3); !is {
			t.Fatalf("the page %d wasn't programmed", place)
		}
	}
	wantScan(t, chip, nil)
	laySector(t, chip, 11, 5, 9)
	wantScan(t, chip, []api.Found{{Place: 11, Tag: api.Tag{Place: 11, Of: 5, Seq: 9}}})
}

// Chips on which cores worked, blocks failed and the power went: their tags are found, but those that can't be read.
func TestScanBehindCalls(t *testing.T) {
	for start := range 10 {
		s := source(start)
		d := newDisk(t)
		for turn := range 60 {
			if s.below(60) == 0 {
				d.chip.FailProgram(s.below(12), s.below(30))
			}
			d.turn(&s, turn)
		}
		d.chip.Cut(s.below(12))
		d.core.Vacate(d.view().Live[24]/8, false)
		d.chip.Power()
		wantScan(t, d.chip, tagsOf(d.chip))
		want := tagsOf(d.chip)
		for range 5 {
			i := s.below(len(want))
			hurt(d.chip, want[i].Place, 3, 3+s.below(2))
			want = slices.Delete(want, i, i+1)
		}
		wantScan(t, d.chip, want)
	}
}
