package nand_test

import (
	"bytes"
	"fmt"
	"testing"

	"patina/api"
	"patina/nand"
)

func TestNumbers(t *testing.T) {
	if api.Blocks != blocks || api.Pages != pages || api.All != all || api.Chunks != chunks || api.Word != word {
		t.Error("the chapter's numbers aren't package api's")
	}
	if blocks*pages != all || chunks*word != pageBytes || 8*pageBytes != bits {
		t.Error("the chapter's numbers don't fit each other")
	}
}

func TestExamples(t *testing.T) {
	c := nand.New()
	sevens := same(7, word)
	page := same(0xff, pageBytes)
	wantRead(t, c, 0, page)
	wantReads(t, c, 0, 1)
	wantWrite(t, c, 0, 3, sevens, nil)
	wantDamage(t, c, 0, 3, 0, 0)

	must(t, c.Flip(0, 1536))
	copy(page[192:], sevens)
	page[192] = 6
	wantRead(t, c, 0, page)
	wantDamage(t, c, 0, 3, 1, 1)
	must(t, c.Flip(0, 1536))
	wantDamage(t, c, 0, 3, 0, 1)

	wantWrite(t, c, 0, 3, sevens, api.ErrProgrammed)
	wantWrite(t, c, 0, 4, sevens, api.ErrArg)
	wantWrite(t, c, 96, 0, sevens, api.ErrArg)
	wantWrite(t, c, 0, 0, sevens[:63], api.ErrArg)

	must(t, c.Cut(1))
	wantWrite(t, c, 0, 0, sevens, nil)
	wantWrite(t, c, 0, 1, sevens, api.ErrPower)
	wantNoRead(t, c, 0, api.ErrPower)
	wantOn(t, c, false)
	c.Power()
	page[192] = 7
	copy(page, sevens)
	wantRead(t, c, 0, page)

	must(t, c.FailProgram(1, 1))
	wantWrite(t, c, 8, 0, sevens, nil)
	wantWrite(t, c, 8, 1, sevens, api.ErrFail)
	wantWrite(t, c, 9, 0, sevens, api.ErrFail)
	wantErase(t, c, 1, api.ErrFail)
	wantFailed(t, c, 1, true)

	must(t, c.FailErase(0))
	wantErase(t, c, 0, api.ErrFail)
	wantFailed(t, c, 0, true)
	wantErase(t, c, 11, nil)
	must(t, c.Flip(5, 0))
	wantDamage(t, c, 5, 0, 1, 1)
	wantTruth(t, c, 5, 0, same(0xff, word), false)
}

func TestNew(t *testing.T) {
	c := nand.New()
	wantOn(t, c, true)
	wantSteps(t, c, 0)
	for b := range blocks {
		wantReads(t, c, b, 0)
		wantFailed(t, c, b, false)
	}
	for at := range all {
		for chunk := range chunks {
			wantDamage(t, c, at, chunk, 0, 0)
			wantTruth(t, c, at, chunk, same(0xff, word), false)
		}
	}
	wantSight(t, "a new chip", c, newSight())
	for at := range all {
		wantRead(t, c, at, same(0xff, pageBytes))
	}
}

func TestNewHasNothingToFail(t *testing.T) {
	c := nand.New()
	for round := range 3 {
		for b := range blocks {
			for i := range pages * chunks {
				wantWrite(t, c, b*pages+i/chunks, i%chunks, fill(i+round), nil)
			}
			wantErase(t, c, b, nil)
		}
	}
	wantSteps(t, c, 3*blocks*(pages*chunks+1))
	wantOn(t, c, true)
}

func TestNewAfterOthers(t *testing.T) {
	c := nand.New()
	busy(t, c)
	off(t, c)
	wantSight(t, "a chip beside one that was used", nand.New(), newSight())
}

// busy does something of everything to a chip; its power stays on, and the budget is 9.
func busy(t *testing.T, c *nand.Chip) {
	t.Helper()
	for chunk := range chunks {
		must(t, c.Write(0, chunk, fill(chunk)))
		must(t, c.Write(95, chunk, fill(9+chunk)))
	}
	must(t, c.Write(17, 2, same(0, word)))
	for _, bit := range []int{0, 7, 8, 511, 512, 2047} {
		must(t, c.Flip(0, bit))
		must(t, c.Flip(95, bit))
		must(t, c.Flip(50, bit))
	}
	must(t, c.Flip(0, 8))
	for _, at := range []int{0, 1, 95, 50} {
		if _, err := c.Read(at); err != nil {
			t.Fatal(err)
		}
	}
	must(t, c.FailProgram(2, 3))
	must(t, c.FailErase(3))
	failed(t, c, 4)
	must(t, c.FailProgram(5, 0))
	if err := c.Write(40, 0, fill(1)); err != api.ErrFail {
		t.Fatalf("the block 5 doesn't fail: %v", err)
	}
	must(t, c.Cut(9))
}

func TestReadIsThePageAsItIs(t *testing.T) {
	c := nand.New()
	want := make([][]byte, all)
	for at := range all {
		want[at] = same(0xff, pageBytes)
		for chunk := range chunks {
			if (at+chunk)%3 == 0 {
				continue
			}
			must(t, c.Write(at, chunk, fill(4*at+chunk)))
			copy(want[at][chunk*word:], fill(4*at+chunk))
		}
		must(t, c.Flip(at, at*21))
		want[at][at*21/8] ^= 1 << (at * 21 % 8)
	}
	for round := range 2 {
		for at := range all {
			wantRead(t, c, (at*5+round)%all, want[(at*5+round)%all])
		}
	}
}

func TestReadCounts(t *testing.T) {
	c := nand.New()
	var counts [blocks]int
	for at := range all {
		for range 1 + at%3 {
			wantRead(t, c, at, same(0xff, pageBytes))
			counts[at/8]++
			for b := range blocks {
				wantReads(t, c, b, counts[b])
			}
		}
	}
	want := newSight()
	want.reads = counts
	wantSight(t, "behind reads", c, want)
}

func TestReadThatIsRefused(t *testing.T) {
	c := nand.New()
	busy(t, c)
	before := see(t, c)
	for _, at := range outside(all) {
		wantNoRead(t, c, at, api.ErrArg)
	}
	wantSight(t, "behind reads of pages that there aren't", c, before)
	off(t, c)
	before = see(t, c)
	for at := range all {
		wantNoRead(t, c, at, api.ErrPower)
	}
	for _, at := range outside(all) {
		wantNoRead(t, c, at, api.ErrArg)
	}
	wantSight(t, "behind reads without power", c, before)
	c.Power()
	wantReads(t, c, 0, 2)
	wantReads(t, c, 6, 1)
}

// TestReadIsNoStep: at a budget of 0 a page is still read, and the budget stays.
func TestReadIsNoStep(t *testing.T) {
	c := nand.New()
	must(t, c.Cut(0))
	for range 5 {
		wantRead(t, c, 3, same(0xff, pageBytes))
	}
	want := newSight()
	want.reads[0], want.budget = 5, 0
	wantSight(t, "behind reads at a budget of 0", c, want)
}

func TestWriteOfEveryChunk(t *testing.T) {
	c, want := nand.New(), newSight()
	for at := range all {
		for i := range chunks {
			chunk := (i + at) % chunks
			b := fill(at*chunks + chunk)
			wantWrite(t, c, at, chunk, b, nil)
			copy(want.now[at][chunk*word:], b)
			want.truth[at][chunk] = [word]byte(b)
			want.programmed[at][chunk] = true
			want.steps++
			wantTruth(t, c, at, chunk, b, true)
			wantDamage(t, c, at, chunk, 0, 0)
			wantSteps(t, c, want.steps)
		}
		wantSight(t, fmt.Sprintf("behind the writes of the page %d", at), c, want)
	}
}

// TestWriteOfAnyBytes: also of noughts, and of ff, which an erased chunk has too.
func TestWriteOfAnyBytes(t *testing.T) {
	for _, b := range [][]byte{same(0, word), same(0xff, word), fill(200), append(same(0xff, 63), 0)} {
		c := nand.New()
		wantWrite(t, c, 33, 1, b, nil)
		wantTruth(t, c, 33, 1, b, true)
		wantDamage(t, c, 33, 1, 0, 0)
		wantRead(t, c, 33, slicesOf(same(0xff, word), b, same(0xff, 2*word)))
		wantWrite(t, c, 33, 1, b, api.ErrProgrammed)
		wantWrite(t, c, 33, 1, fill(1), api.ErrProgrammed)
		wantTruth(t, c, 33, 1, b, true)
	}
}

// slicesOf is one behind the other.
func slicesOf(parts ...[]byte) []byte {
	return bytes.Join(parts, nil)
}

// TestWriteOverDamage: the bytes are b, whatever turned ahead of it, and neither damage nor worst is left.
func TestWriteOverDamage(t *testing.T) {
	c := nand.New()
	for bit := 512; bit < 1024; bit += 3 {
		must(t, c.Flip(60, bit))
	}
	wantDamage(t, c, 60, 1, 64, 64)
	wantWrite(t, c, 60, 1, fill(3), nil)
	wantDamage(t, c, 60, 1, 0, 0)
	wantTruth(t, c, 60, 1, fill(3), true)
	wantRead(t, c, 60, slicesOf(same(0xff, word), fill(3), same(0xff, 2*word)))
}

func TestWriteOfWrongArguments(t *testing.T) {
	c := nand.New()
	busy(t, c)
	wrong := func() {
		t.Helper()
		before := see(t, c)
		for _, at := range outside(all) {
			wantWrite(t, c, at, 0, fill(0), api.ErrArg)
		}
		for _, chunk := range outside(chunks) {
			wantWrite(t, c, 20, chunk, fill(0), api.ErrArg)
			wantWrite(t, c, 0, chunk, fill(0), api.ErrArg)  // a page of which all is programmed
			wantWrite(t, c, 40, chunk, fill(0), api.ErrArg) // and one of a block that has failed
			wantWrite(t, c, 96, chunk, fill(0), api.ErrArg)
		}
		for _, n := range []int{0, 1, 32, 58, 63, 65, 128, 256} {
			wantWrite(t, c, 20, 0, make([]byte, n), api.ErrArg)
			wantWrite(t, c, 0, 0, make([]byte, n), api.ErrArg)
			wantWrite(t, c, 40, 0, make([]byte, n), api.ErrArg)
		}
		wantWrite(t, c, 20, 0, nil, api.ErrArg)
		wantWrite(t, c, 20, 0, make([]byte, 63, 64), api.ErrArg)
		wantSight(t, "behind writes that may not be", c, before)
	}
	wrong()
	must(t, c.Cut(0))
	wrong()
	off(t, c)
	wrong()
}

func TestWriteOfAProgrammedChunk(t *testing.T) {
	c := nand.New()
	must(t, c.Write(8, 0, fill(1)))
	must(t, c.Flip(8, 9))
	must(t, c.FailProgram(1, 2))
	for _, n := range []int{2, 1, 0} {
		must(t, c.Cut(n))
		before := see(t, c)
		wantWrite(t, c, 8, 0, fill(1), api.ErrProgrammed)
		wantWrite(t, c, 8, 0, fill(2), api.ErrProgrammed)
		wantOn(t, c, true)
		wantSteps(t, c, 1)
		wantSight(t, "behind a write of a programmed chunk", c, before)
	}
	off(t, c)
	wantWrite(t, c, 8, 0, fill(1), api.ErrPower)
	c.Power()
	failed(t, c, 1)
	wantWrite(t, c, 8, 0, fill(1), api.ErrProgrammed)
	wantSteps(t, c, 2)
	wantTruth(t, c, 8, 0, fill(1), true)
}

func TestWriteBehindAnErase(t *testing.T) {
	c := nand.New()
	for round := range 4 {
		wantWrite(t, c, 23, 3, fill(round), nil)
		wantWrite(t, c, 23, 3, fill(round), api.ErrProgrammed)
		wantTruth(t, c, 23, 3, fill(round), true)
		wantErase(t, c, 2, nil)
		wantTruth(t, c, 23, 3, same(0xff, word), false)
	}
}

func TestWriteWithoutPower(t *testing.T) {
	c := nand.New()
	busy(t, c)
	off(t, c)
	before := see(t, c)
	for at := range all {
		for chunk := range chunks {
			wantWrite(t, c, at, chunk, fill(0), api.ErrPower)
		}
	}
	wantSight(t, "behind writes without power", c, before)
}

func TestWriteAtABudget(t *testing.T) {
	for n := range 6 {
		c, want := nand.New(), newSight()
		must(t, c.Cut(n))
		for i := range n {
			at, chunk := 16+i/chunks, i%chunks
			wantWrite(t, c, at, chunk, fill(i), nil)
			wantOn(t, c, true)
			wantSteps(t, c, i+1)
			copy(want.now[at][chunk*word:], fill(i))
			want.truth[at][chunk], want.programmed[at][chunk] = [word]byte(fill(i)), true
		}
		want.steps, want.budget = n, 0
		wantSight(t, "when the budget is used", c, want)
		for range 3 {
			wantWrite(t, c, 18, 0, fill(9), api.ErrPower)
			wantOn(t, c, false)
		}
		want.on = false
		wantSight(t, "when the power is gone", c, want)
	}
}

// TestWriteThatIsNoStep: none of those that are refused ahead of the step is counted anywhere.
func TestWriteThatIsNoStep(t *testing.T) {
	c := nand.New()
	must(t, c.Write(8, 0, fill(0)))
	must(t, c.FailProgram(1, 2))
	must(t, c.Cut(3))
	refused := func() {
		t.Helper()
		for range 4 {
			wantWrite(t, c, 8, 0, fill(0), api.ErrProgrammed)
			wantWrite(t, c, 8, 4, fill(0), api.ErrArg)
			wantWrite(t, c, 8, 1, fill(0)[:63], api.ErrArg)
			wantWrite(t, c, -1, 1, fill(0), api.ErrArg)
		}
	}
	refused()
	wantWrite(t, c, 8, 1, fill(0), nil)
	must(t, c.Cut(0))
	wantWrite(t, c, 8, 2, fill(0), api.ErrPower)
	wantWrite(t, c, 8, 2, fill(0), api.ErrPower)
	c.Power()
	must(t, c.Cut(2))
	refused()
	wantSteps(t, c, 2)
	wantWrite(t, c, 8, 2, fill(0), nil)
	refused()
	wantWrite(t, c, 8, 3, fill(0), api.ErrFail)
	wantSteps(t, c, 4)
	wantOn(t, c, true)
	wantWrite(t, c, 9, 0, fill(0), api.ErrPower)
	wantSteps(t, c, 4)
}

// TestWriteThatFailsIsAStep: it is counted, it takes one off the budget, and it programs nothing.
func TestWriteThatFailsIsAStep(t *testing.T) {
	c := nand.New()
	must(t, c.Write(24, 0, fill(0)))
	must(t, c.Flip(24, 600))
	must(t, c.FailProgram(3, 0))
	must(t, c.Cut(4))
	want := see(t, c)
	wantWrite(t, c, 24, 1, fill(1), api.ErrFail)
	want.steps, want.budget = 2, 3
	want.failed[3], want.eraseFails[3] = true, true
	wantSight(t, "behind the first write that fails", c, want)
	wantWrite(t, c, 24, 1, fill(1), api.ErrFail)
	wantWrite(t, c, 31, 3, fill(1), api.ErrFail)
	want.steps, want.budget = 4, 1
	wantSight(t, "behind two more", c, want)
	wantWrite(t, c, 32, 0, fill(1), nil)
	wantWrite(t, c, 24, 1, fill(1), api.ErrPower)
	wantSteps(t, c, 5)
	wantOn(t, c, false)
}

func TestWriteInABlockThatHasFailed(t *testing.T) {
	c := nand.New()
	must(t, c.Write(48, 2, fill(7)))
	failed(t, c, 6)
	for at := 48; at < 56; at++ {
		for chunk := range chunks {
			if at == 48 && chunk == 2 {
				wantWrite(t, c, at, chunk, fill(1), api.ErrProgrammed)
				continue
			}
			wantWrite(t, c, at, chunk, fill(1), api.ErrFail)
			wantTruth(t, c, at, chunk, same(0xff, word), false)
		}
	}
	wantSteps(t, c, 2+31)
	wantRead(t, c, 48, slicesOf(same(0xff, 2*word), fill(7), same(0xff, word)))
	wantWrite(t, c, 47, 3, fill(1), nil)
	wantWrite(t, c, 56, 0, fill(1), nil)
}

// TestBudgetAheadOfFailure: at a budget of 0 a block doesn't fail: the power goes, and the block is to fail as before.
func TestBudgetAheadOfFailure(t *testing.T) {
	c := nand.New()
	must(t, c.FailProgram(0, 0))
	must(t, c.FailErase(1))
	must(t, c.Cut(0))
	want := see(t, c)
	wantWrite(t, c, 0, 0, fill(0), api.ErrPower)
	want.on = false
	wantSight(t, "behind a write without a step left", c, want)
	c.Power()
	must(t, c.Cut(0))
	wantErase(t, c, 1, api.ErrPower)
	wantSight(t, "behind an erase without a step left", c, want)
	c.Power()
	wantWrite(t, c, 0, 0, fill(0), api.ErrFail)
	wantErase(t, c, 1, api.ErrFail)
	must(t, c.Cut(0))
	wantWrite(t, c, 0, 0, fill(0), api.ErrPower)
	wantOn(t, c, false)
	wantSteps(t, c, 2)
}

func TestErase(t *testing.T) {
	for b := range blocks {
		c := nand.New()
		for at := range all {
			must(t, c.Write(at, at%chunks, fill(at)))
			must(t, c.Flip(at, at%chunks*512+at))
			must(t, c.Flip(at, (at+1)%chunks*512+at))
			must(t, c.Flip(at, (at+2)%chunks*512+at))
			must(t, c.Flip(at, (at+2)%chunks*512+at))
			if _, err := c.Read(at); err != nil {
				t.Fatal(err)
			}
		}
		want, empty := see(t, c), newSight()
		wantErase(t, c, b, nil)
		want.steps++
		want.reads[b] = 0
		for at := 8 * b; at < 8*b+8; at++ {
			want.damage[at], want.worst[at] = empty.damage[at], empty.worst[at]
			want.truth[at], want.programmed[at] = empty.truth[at], empty.programmed[at]
			want.now[at] = empty.now[at]
		}
		wantSight(t, fmt.Sprintf("behind Erase(%d)", b), c, want)
	}
}

func TestEraseOfWhatIsErased(t *testing.T) {
	c, want := nand.New(), newSight()
	for b := range blocks {
		wantErase(t, c, b, nil)
		wantErase(t, c, b, nil)
		want.steps += 2
		wantSight(t, fmt.Sprintf("behind Erase(%d)", b), c, want)
	}
}

func TestEraseThatIsRefused(t *testing.T) {
	c := nand.New()
	busy(t, c)
	wrong := func() {
		t.Helper()
		before := see(t, c)
		for _, b := range outside(blocks) {
			wantErase(t, c, b, api.ErrArg)
		}
		wantSight(t, "behind erases of blocks that there aren't", c, before)
	}
	wrong()
	must(t, c.Cut(0))
	wrong()
	off(t, c)
	wrong()
	before := see(t, c)
	for b := range blocks {
		wantErase(t, c, b, api.ErrPower)
	}
	wantSight(t, "behind erases without power", c, before)
}

func TestEraseAtABudget(t *testing.T) {
	c := nand.New()
	for at := range all {
		must(t, c.Write(at, 0, fill(at)))
	}
	must(t, c.Flip(8, 0))
	must(t, c.Cut(1))
	wantErase(t, c, 5, nil)
	wantSteps(t, c, 97)
	wantOn(t, c, true)
	want := see(t, c)
	wantErase(t, c, 1, api.ErrPower)
	want.on = false
	wantSight(t, "behind an erase at a budget of 0", c, want)
	wantErase(t, c, 1, api.ErrPower)
	wantSight(t, "behind another one", c, want)
	c.Power()
	wantErase(t, c, 1, nil)
	wantTruth(t, c, 8, 0, same(0xff, word), false)
	wantSteps(t, c, 98)
}

// TestEraseThatFails: it is a step, and nothing is erased, the reads of the block neither.
func TestEraseThatFails(t *testing.T) {
	c := nand.New()
	must(t, c.Write(88, 0, fill(0)))
	must(t, c.Write(80, 0, fill(1)))
	must(t, c.Flip(88, 5))
	must(t, c.Flip(95, 5))
	must(t, c.Flip(95, 5))
	for range 7 {
		if _, err := c.Read(90); err != nil {
			t.Fatal(err)
		}
	}
	must(t, c.FailErase(11))
	must(t, c.Cut(5))
	want := see(t, c)
	for n := range 3 {
		wantErase(t, c, 11, api.ErrFail)
		want.steps, want.budget = 3+n, 4-n
		want.failed[11], want.writes[11] = true, 0
		wantSight(t, "behind an erase that fails", c, want)
	}
	wantErase(t, c, 10, nil)
	wantTruth(t, c, 80, 0, same(0xff, word), false)
	wantTruth(t, c, 88, 0, fill(0), true)
}
