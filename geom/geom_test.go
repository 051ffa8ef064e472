package geom_test

import (
	"math"
	"math/big"
	"testing"

	"patina/api"
	"patina/geom"
)

// The chapter's numbers, written out here: that they are also package api's is tested below.
const (
	blocks    = 12
	pages     = 8
	all       = 96
	dataPages = 6
	point     = 24
	chunks    = 4
	word      = 64
	bits      = 2048
)

// far are ints that are no block, index, place, number or bit, whichever is asked for.
func far() []int {
	return []int{
		-2, -8, -12, -96, -2048, 2049, 4096, 1 << 20, -1 << 20,
		math.MaxInt32, math.MinInt32, 1 << 32, 1<<32 + 1, -1 << 32, 1<<61 + 1, 1 << 62,
		math.MaxInt, math.MaxInt - 1, math.MinInt, math.MinInt + 1,
	}
}

// outside are the ints just outside 0 to many - 1, a little further on, and far outside.
func outside(many int) []int {
	return append(far(), -1, many, many+1, 2*many)
}

// steps are ways of all lengths, both ways: the least and the greatest int among them.
func steps() []int {
	out := []int{
		math.MinInt, math.MinInt + 1, math.MinInt + 95, math.MinInt + 96, math.MinInt / 2,
		math.MaxInt, math.MaxInt - 1, math.MaxInt - 95, math.MaxInt - 96, math.MaxInt / 2,
		math.MinInt32, math.MaxInt32, 1 << 32, -1 << 32, 96000, -96000,
	}
	for by := -200; by <= 200; by++ {
		out = append(out, by)
	}
	return out
}

// round is place and by, modulo 96, worked out in numbers without an end.
func round(place, by int) int {
	sum := new(big.Int).Add(big.NewInt(int64(place)), big.NewInt(int64(by)))
	return int(sum.Mod(sum, big.NewInt(all)).Int64())
}

func wantPlace(t *testing.T, block, index, want int) {
	t.Helper()
	if place, err := geom.Place(block, index); place != want || err != nil {
		t.Errorf("Place(%d, %d): %d, %v, want %d", block, index, place, err, want)
	}
}

func wantNoPlace(t *testing.T, block, index int) {
	t.Helper()
	if place, err := geom.Place(block, index); place != 0 || err != api.ErrArg {
		t.Errorf("Place(%d, %d): %d, %v, want ErrArg alone", block, index, place, err)
	}
}

func wantParts(t *testing.T, place, block, index int) {
	t.Helper()
	if b, i, err := geom.Parts(place); b != block || i != index || err != nil {
		t.Errorf("Parts(%d): %d, %d, %v, want %d, %d", place, b, i, err, block, index)
	}
}

func wantNoParts(t *testing.T, place int) {
	t.Helper()
	if b, i, err := geom.Parts(place); b != 0 || i != 0 || err != api.ErrArg {
		t.Errorf("Parts(%d): %d, %d, %v, want ErrArg alone", place, b, i, err)
	}
}

func wantHolds(t *testing.T, place, of int, want bool) {
	t.Helper()
	if may, err := geom.Holds(place, of); may != want || err != nil {
		t.Errorf("Holds(%d, %d): %t, %v, want %t", place, of, may, err, want)
	}
}

func wantNoHolds(t *testing.T, place, of int) {
	t.Helper()
	if may, err := geom.Holds(place, of); may || err != api.ErrArg {
		t.Errorf("Holds(%d, %d): %t, %v, want ErrArg alone", place, of, may, err)
	}
}

func wantOn(t *testing.T, place, by, want int) {
	t.Helper()
	if p, err := geom.On(place, by); p != want || err != nil {
		t.Errorf("On(%d, %d): %d, %v, want %d", place, by, p, err, want)
	}
}

func wantNoOn(t *testing.T, place, by int) {
	t.Helper()
	if p, err := geom.On(place, by); p != 0 || err != api.ErrArg {
		t.Errorf("On(%d, %d): %d, %v, want ErrArg alone", place, by, p, err)
	}
}

func wantBit(t *testing.T, bit, chunk, inChunk, inByte int) {
	t.Helper()
	if c, b, i, err := geom.Bit(bit); c != chunk || b != inChunk || i != inByte || err != nil {
		t.Errorf("Bit(%d): %d, %d, %d, %v, want %d, %d, %d", bit, c, b, i, err, chunk, inChunk, inByte)
	}
}

func wantNoBit(t *testing.T, bit int) {
	t.Helper()
	if c, b, i, err := geom.Bit(bit); c != 0 || b != 0 || i != 0 || err != api.ErrArg {
		t.Errorf("Bit(%d): %d, %d, %d, %v, want ErrArg alone", bit, c, b, i, err)
	}
}

func TestExamples(t *testing.T) {
	wantPlace(t, 0, 0, 0)
	wantPlace(t, 11, 7, 95)
	wantNoPlace(t, 12, 0)
	wantNoPlace(t, 3, 8)
	wantParts(t, 17, 2, 1)
	wantNoParts(t, 96)
	wantHolds(t, 5, 3, true)
	wantHolds(t, 6, 3, false)
	wantHolds(t, 6, 24, true)
	wantNoHolds(t, 0, 25)
	wantOn(t, 95, 1, 0)
	wantOn(t, 0, -1, 95)
	wantOn(t, 0, math.MinInt64, 64)
	wantBit(t, 0, 0, 0, 0)
	wantBit(t, 2047, 3, 63, 7)
	wantBit(t, 513, 1, 0, 1)
	wantNoBit(t, 2048)
}

func TestTheLimitsAreThoseOfTheChapter(t *testing.T) {
	if api.Blocks != blocks || api.Pages != pages || api.All != all || api.DataPages != dataPages {
		t.Error("the blocks and pages of package api are not those of the chapter")
	}
	if api.Sectors != point || api.Point != point || api.Chunks != chunks || api.Word != word {
		t.Error("the numbers and chunks of package api are not those of the chapter")
	}
}

// P4.1

func TestPlacesAreCountedBlockByBlock(t *testing.T) {
	next := 0
	for block := range blocks {
		for index := range pages {
			wantPlace(t, block, index, next)
			next++
		}
	}
	if next != all {
		t.Errorf("%d places were asked for, want %d", next, all)
	}
}

func TestNoPlaceOfABlockThatIsNone(t *testing.T) {
	for _, block := range outside(blocks) {
		for index := range pages {
			wantNoPlace(t, block, index)
		}
	}
}

func TestNoPlaceOfAnIndexThatIsNone(t *testing.T) {
	for _, index := range outside(pages) {
		for block := range blocks {
			wantNoPlace(t, block, index)
		}
	}
}

func TestNoPlaceWhereBothAreNone(t *testing.T) {
	for _, block := range outside(blocks) {
		for _, index := range outside(pages) {
			wantNoPlace(t, block, index)
		}
	}
}

// P4.2

func TestPartsAreCountedBlockByBlock(t *testing.T) {
	block, index := 0, 0
	for place := range all {
		wantParts(t, place, block, index)
		if index++; index == pages {
			block, index = block+1, 0
		}
	}
}

func TestNoPartsOfWhatIsNoPlace(t *testing.T) {
	for _, place := range outside(all) {
		wantNoParts(t, place)
	}
}

// P4.3

func TestTheCheckpointMayLieEverywhere(t *testing.T) {
	for place := range all {
		wantHolds(t, place, point, true)
	}
}

func TestASectorMayLieInTheFirstSixPagesOfABlock(t *testing.T) {
	for block := range blocks {
		for index, may := range [pages]bool{true, true, true, true, true, true, false, false} {
			for of := range point {
				wantHolds(t, block*pages+index, of, may)
			}
		}
	}
}

func TestHoldsOfWhatIsNoPlace(t *testing.T) {
	for _, place := range outside(all) {
		for of := range point + 1 {
			wantNoHolds(t, place, of)
		}
	}
}

func TestHoldsOfWhatIsNoNumber(t *testing.T) {
	for _, of := range outside(point + 1) {
		for place := range all {
			wantNoHolds(t, place, of)
		}
	}
}

func TestHoldsWhereBothAreNone(t *testing.T) {
	for _, place := range outside(all) {
		for _, of := range outside(point + 1) {
			wantNoHolds(t, place, of)
		}
	}
}

// P4.4

func TestOnByOneStepEitherWay(t *testing.T) {
	for place := range all - 1 {
		wantOn(t, place, 1, place+1)
		wantOn(t, place+1, -1, place)
	}
	wantOn(t, all-1, 1, 0)
	wantOn(t, 0, -1, all-1)
}

func TestOnByWholeRoundsIsThePlaceItself(t *testing.T) {
	for place := range all {
		for _, by := range []int{0, 96, -96, 192, -192, 96 << 50, -96 << 50} {
			wantOn(t, place, by, place)
		}
	}
}

func TestOnByTheLeastAndTheGreatestInt(t *testing.T) {
	// 2^63 is 96 times some number, and 32: a way of -2^63 is one of 64, a way of 2^63 - 1 is one of 31.
	for place := range all {
		least, greatest := place+64, place+31
		if least >= all {
			least -= all
		}
		if greatest >= all {
			greatest -= all
		}
		wantOn(t, place, math.MinInt64, least)
		wantOn(t, place, math.MaxInt64, greatest)
	}
}

func TestOnByWhateverIntItIs(t *testing.T) {
	for place := range all {
		for _, by := range steps() {
			wantOn(t, place, by, round(place, by))
		}
	}
}

func TestNoWayOnFromWhatIsNoPlace(t *testing.T) {
	for _, place := range outside(all) {
		for _, by := range steps() {
			wantNoOn(t, place, by)
		}
	}
}

// P4.5

func TestBitsAreCountedByteByByteAndChunkByChunk(t *testing.T) {
	bit := 0
	for chunk := range chunks {
		for inChunk := range word {
			for inByte := range 8 {
				wantBit(t, bit, chunk, inChunk, inByte)
				bit++
			}
		}
	}
	if bit != bits {
		t.Errorf("%d bits were asked for, want %d", bit, bits)
	}
}

func TestNoBitOutsideAPage(t *testing.T) {
	for _, bit := range outside(bits) {
		wantNoBit(t, bit)
	}
}

// P4.6

func TestPartsOfWhatPlaceTellsAreItsArguments(t *testing.T) {
	for block := range blocks {
		for index := range pages {
			place, err := geom.Place(block, index)
			if err != nil {
				t.Fatalf("Place(%d, %d): %v", block, index, err)
			}
			wantParts(t, place, block, index)
		}
	}
}

func TestPlaceOfPartsIsThePlace(t *testing.T) {
	for place := range all {
		block, index, err := geom.Parts(place)
		if err != nil {
			t.Fatalf("Parts(%d): %v", place, err)
		}
		wantPlace(t, block, index, place)
	}
}

// addable tells whether a and b together are an int.
func addable(a, b int) bool {
	return new(big.Int).Add(big.NewInt(int64(a)), big.NewInt(int64(b))).IsInt64()
}

func TestOnByAAndThenByBIsOnByBoth(t *testing.T) {
	ways := []int{
		math.MinInt, math.MinInt + 1, math.MinInt + 96, math.MinInt / 2, -1 << 40, -193, -97, -96, -95, -2, -1,
		0, 1, 2, 47, 95, 96, 97, 193, 1 << 40, math.MaxInt / 2, math.MaxInt - 96, math.MaxInt - 1, math.MaxInt,
	}
	for place := range all {
		for _, a := range ways {
			between, err := geom.On(place, a)
			if err != nil {
				t.Fatalf("On(%d, %d): %v", place, a, err)
			}
			for _, b := range ways {
				if !addable(a, b) {
					continue
				}
				both, err := geom.On(place, a+b)
				if err != nil {
					t.Fatalf("On(%d, %d): %v", place, a+b, err)
				}
				wantOn(t, between, b, both)
			}
		}
	}
}

func TestEachBitHasItsOwnChunkByteAndBit(t *testing.T) {
	seen := map[[3]int]int{}
	for bit := range bits {
		chunk, inChunk, inByte, err := geom.Bit(bit)
		if err != nil {
			t.Fatalf("Bit(%d): %v", bit, err)
		}
		at := [3]int{chunk, inChunk, inByte}
		if other, ok := seen[at]; ok {
			t.Errorf("the bits %d and %d both lie at %v", other, bit, at)
		}
		seen[at] = bit
	}
}

// R4

func TestAnswersHangOnTheArgumentsAlone(t *testing.T) {
	ask := func() {
		wantPlace(t, 4, 5, 37)
		wantParts(t, 37, 4, 5)
		wantHolds(t, 38, 23, false)
		wantOn(t, 37, -38, 95)
		wantBit(t, 1031, 2, 0, 7)
	}
	ask()
	for _, wrong := range outside(bits) {
		wantNoPlace(t, wrong, 0)
		wantNoParts(t, wrong)
		wantNoHolds(t, wrong, 0)
		wantNoOn(t, wrong, 1)
		wantNoBit(t, wrong)
		ask()
	}
}
