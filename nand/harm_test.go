package nand_test

import (
	"fmt"
	"math"
	"testing"

	"patina/api"
	"patina/nand"
)

func TestFlipOfEveryBit(t *testing.T) {
	c := nand.New()
	for chunk := range chunks {
		must(t, c.Write(2, chunk, fill(chunk)))
	}
	for _, at := range []int{1, 2, 95} {
		want := same(0xff, pageBytes)
		if at == 2 {
			want = slicesOf(fill(0), fill(1), fill(2), fill(3))
		}
		for bit := range bits {
			must(t, c.Flip(at, bit))
			want[bit/8] ^= 1 << (bit % 8)
			wantRead(t, c, at, want)
			must(t, c.Flip(at, bit))
			want[bit/8] ^= 1 << (bit % 8)
			wantRead(t, c, at, want)
		}
	}
}

// TestFlipAtTheEdges: the first and the last bit of each chunk of each page, of that one alone.
func TestFlipAtTheEdges(t *testing.T) {
	c := nand.New()
	for at := 0; at < all; at += 2 {
		for chunk := range chunks {
			must(t, c.Write(at, chunk, fill(at+chunk)))
		}
	}
	want := see(t, c)
	for at := range all {
		for chunk := range chunks {
			for n, bit := range []int{chunk * 512, chunk*512 + 511} {
				must(t, c.Flip(at, bit))
				want.now[at][bit/8] ^= 1 << (bit % 8)
				want.damage[at][chunk], want.worst[at][chunk] = n+1, n+1
				wantDamage(t, c, at, chunk, n+1, n+1)
			}
		}
		wantSight(t, fmt.Sprintf("behind flips of the page %d", at), c, want)
	}
}

func TestFlipBack(t *testing.T) {
	c := nand.New()
	must(t, c.Write(10, 1, fill(0)))
	for _, at := range []int{10, 11} {
		want := see(t, c)
		must(t, c.Flip(at, 700))
		wantDamage(t, c, at, 1, 1, 1)
		must(t, c.Flip(at, 700))
		want.worst[at][1] = 1
		wantSight(t, "behind a flip back", c, want)
	}
}

// TestFlipsOfOneByte: a byte is damaged once, however many of its bits are turned.
func TestFlipsOfOneByte(t *testing.T) {
	c := nand.New()
	must(t, c.Write(10, 0, fill(0)))
	for _, at := range []int{10, 11} {
		for bit := 80; bit < 88; bit++ {
			must(t, c.Flip(at, bit))
			wantDamage(t, c, at, 0, 1, 1)
		}
		for bit := 80; bit < 87; bit++ {
			must(t, c.Flip(at, bit))
			wantDamage(t, c, at, 0, 1, 1)
		}
		must(t, c.Flip(at, 87))
		wantDamage(t, c, at, 0, 0, 1)
	}
}

func TestFlipOfWrongArguments(t *testing.T) {
	c := nand.New()
	busy(t, c)
	wrong := func() {
		t.Helper()
		before := see(t, c)
		for _, at := range outside(all) {
			wantErr(t, fmt.Sprintf("Flip(%d, 0)", at), c.Flip(at, 0), api.ErrArg)
			wantErr(t, fmt.Sprintf("Flip(%d, 2048)", at), c.Flip(at, 2048), api.ErrArg)
		}
		for _, bit := range outside(bits) {
			wantErr(t, fmt.Sprintf("Flip(0, %d)", bit), c.Flip(0, bit), api.ErrArg)
			wantErr(t, fmt.Sprintf("Flip(95, %d)", bit), c.Flip(95, bit), api.ErrArg)
		}
		wantSight(t, "behind flips that may not be", c, before)
	}
	wrong()
	off(t, c)
	wrong()
}

// TestFlipWithoutPower: bits turn all the same, and the power stays off.
func TestFlipWithoutPower(t *testing.T) {
	c := nand.New()
	must(t, c.Write(70, 2, fill(0)))
	off(t, c)
	want := see(t, c)
	for _, at := range []int{70, 71} {
		for n, bit := range []int{1024, 1535} {
			must(t, c.Flip(at, bit))
			want.now[at][bit/8] ^= 1 << (bit % 8)
			want.damage[at][2], want.worst[at][2] = n+1, n+1
			wantSight(t, "behind a flip without power", c, want)
		}
	}
}

// TestFlipIsNoStep: at a budget of 0 bits turn, and the budget stays; nor is it a read or a write.
func TestFlipIsNoStep(t *testing.T) {
	c := nand.New()
	must(t, c.FailProgram(0, 0))
	must(t, c.Cut(0))
	want := see(t, c)
	must(t, c.Flip(0, 3))
	want.now[0][0] = 0xf7
	want.damage[0][0], want.worst[0][0] = 1, 1
	wantSight(t, "behind a flip at a budget of 0", c, want)
}

// TestFlipInABlockThatHasFailed: that is no help to it.
func TestFlipInABlockThatHasFailed(t *testing.T) {
	c := nand.New()
	must(t, c.Write(0, 0, same(0, word)))
	failed(t, c, 0)
	must(t, c.Flip(0, 0))
	wantDamage(t, c, 0, 0, 1, 1)
	wantRead(t, c, 0, slicesOf([]byte{1}, same(0, 63), same(0xff, 3*word)))
}

func TestDamageAndWorst(t *testing.T) {
	c := nand.New()
	turn := func(bit, damage, worst int) {
		t.Helper()
		must(t, c.Flip(40, bit))
		wantDamage(t, c, 40, 2, damage, worst)
	}
	turn(1024, 1, 1)
	turn(1032, 2, 2)
	turn(1033, 2, 2)
	turn(1024, 1, 2)
	turn(1033, 1, 2)
	turn(1032, 0, 2)
	turn(1040, 1, 2)
	must(t, c.Write(40, 2, fill(0)))
	wantDamage(t, c, 40, 2, 0, 0)
	turn(1535, 1, 1)
	turn(1527, 2, 2)
	turn(1024, 3, 3)
	turn(1535, 2, 3)
	turn(1535, 3, 3)
	turn(1032, 4, 4)
	turn(1032, 3, 4)
	wantErase(t, c, 4, nil)
	turn(1535, 2, 4)
	turn(1024, 1, 4)
	turn(1527, 0, 4)
	wantErase(t, c, 5, nil)
	wantDamage(t, c, 40, 2, 0, 0)
	turn(1032, 1, 1)
	for chunk := range chunks {
		if chunk != 2 {
			wantDamage(t, c, 40, chunk, 0, 0)
		}
	}
}

// TestDamageUpToTheWhole: all 64 bytes, and back.
func TestDamageUpToTheWhole(t *testing.T) {
	c := nand.New()
	must(t, c.Write(7, 3, fill(0)))
	for i := range word {
		must(t, c.Flip(7, 1536+8*i+i%8))
		wantDamage(t, c, 7, 3, i+1, i+1)
	}
	wantTruth(t, c, 7, 3, fill(0), true)
	for i := range word {
		must(t, c.Flip(7, 1536+8*i+i%8))
		wantDamage(t, c, 7, 3, 63-i, 64)
	}
	wantRead(t, c, 7, slicesOf(same(0xff, 3*word), fill(0)))
}

// TestTruthStays: what was programmed is told, not what became of it.
func TestTruthStays(t *testing.T) {
	c := nand.New()
	must(t, c.Write(1, 1, fill(5)))
	for bit := range bits {
		must(t, c.Flip(1, bit))
	}
	wantTruth(t, c, 1, 1, fill(5), true)
	wantTruth(t, c, 1, 0, same(0xff, word), false)
	wantDamage(t, c, 1, 1, 64, 64)
	wantDamage(t, c, 1, 0, 64, 64)
}

func TestFailProgram(t *testing.T) {
	for b := range blocks {
		for _, after := range []int{0, 1, 2, 5, 31} {
			c := nand.New()
			must(t, c.FailProgram(b, after))
			wantFailed(t, c, b, false)
			for i := range after {
				wantWrite(t, c, b*8+i/4, i%4, fill(i), nil)
			}
			wantFailed(t, c, b, false)
			at, chunk := b*8+after/4, after%4
			for range 3 {
				wantWrite(t, c, at, chunk, fill(after), api.ErrFail)
				wantFailed(t, c, b, true)
			}
			wantTruth(t, c, at, chunk, same(0xff, word), false)
			wantErase(t, c, b, api.ErrFail)
			wantSteps(t, c, after+4)
			wantWrite(t, c, (b*8+8)%all, 0, fill(0), nil)
			wantErase(t, c, (b+1)%blocks, nil)
		}
	}
}

// TestFailProgramIsOfOneBlock: writes of others aren't counted.
func TestFailProgramIsOfOneBlock(t *testing.T) {
	c := nand.New()
	must(t, c.FailProgram(4, 1))
	must(t, c.FailProgram(6, 2))
	for i := range 32 {
		wantWrite(t, c, 40+i/4, i%4, fill(i), nil)
	}
	wantErase(t, c, 3, nil)
	wantWrite(t, c, 32, 0, fill(0), nil)
	wantWrite(t, c, 48, 0, fill(0), nil)
	wantWrite(t, c, 48, 1, fill(0), nil)
	wantWrite(t, c, 32, 1, fill(0), api.ErrFail)
	wantWrite(t, c, 48, 2, fill(0), api.ErrFail)
	for b := range blocks {
		wantFailed(t, c, b, b == 4 || b == 6)
	}
}

// TestFailProgramTwice: the later one counts, be it nearer or further on.
func TestFailProgramTwice(t *testing.T) {
	for _, first := range []int{0, 1, 4, math.MaxInt} {
		for _, between := range []int{0, 1} {
			for _, second := range []int{0, 1, 3, 6} {
				c := nand.New()
				must(t, c.FailProgram(9, first))
				if between == 1 && first > 0 {
					wantWrite(t, c, 79, 3, fill(0), nil)
				}
				must(t, c.FailProgram(9, second))
				for i := range second {
					wantWrite(t, c, 72+i/4, i%4, fill(i), nil)
				}
				wantWrite(t, c, 72+second/4, second%4, fill(0), api.ErrFail)
			}
		}
	}
}

// TestFailProgramFarAhead: as far as an int goes.
func TestFailProgramFarAhead(t *testing.T) {
	c := nand.New()
	for _, after := range []int{math.MaxInt, math.MaxInt - 1, math.MaxInt32, 1 << 32, 1000} {
		must(t, c.FailProgram(0, after))
		for i := range 32 {
			wantWrite(t, c, i/4, i%4, fill(i), nil)
		}
		wantErase(t, c, 0, nil)
		wantFailed(t, c, 0, false)
	}
}

// TestFailProgramAcrossErases: an erase neither counts nor ends it, and there is no end to how often.
func TestFailProgramAcrossErases(t *testing.T) {
	c := nand.New()
	must(t, c.FailProgram(2, 70))
	for i := range 70 {
		wantWrite(t, c, 16+i%8, i%4, fill(i), nil)
		if i%4 == 3 {
			wantErase(t, c, 2, nil)
		}
	}
	wantErase(t, c, 2, nil)
	wantErase(t, c, 2, nil)
	wantFailed(t, c, 2, false)
	wantWrite(t, c, 23, 3, fill(0), api.ErrFail)
	wantFailed(t, c, 2, true)
}

// TestFailProgramBehindAFailure: a block that has failed stays so, whatever is said of it.
func TestFailProgramBehindAFailure(t *testing.T) {
	c := nand.New()
	failed(t, c, 1)
	must(t, c.FailProgram(1, 5))
	must(t, c.FailErase(1))
	c.Power()
	wantFailed(t, c, 1, true)
	for range 8 {
		wantWrite(t, c, 8, 0, fill(0), api.ErrFail)
		wantErase(t, c, 1, api.ErrFail)
	}
	wantSteps(t, c, 17)
}

func TestFailErase(t *testing.T) {
	for b := range blocks {
		c := nand.New()
		must(t, c.FailErase(b))
		wantFailed(t, c, b, false)
		for other := range blocks {
			if other != b {
				wantErase(t, c, other, nil)
			}
		}
		for i := range 32 {
			wantWrite(t, c, b*8+i/4, i%4, fill(i), nil)
		}
		wantFailed(t, c, b, false)
		wantErase(t, c, b, api.ErrFail)
		wantTruth(t, c, b*8, 0, fill(0), true)
		wantErase(t, c, b, api.ErrFail)
		for other := range blocks {
			wantFailed(t, c, other, other == b)
		}
	}
}

// TestFailEraseWaits: for an erase that is a step.
func TestFailEraseWaits(t *testing.T) {
	c := nand.New()
	must(t, c.FailErase(3))
	wantErase(t, c, 12, api.ErrArg)
	must(t, c.Cut(0))
	wantErase(t, c, 3, api.ErrPower)
	wantErase(t, c, 3, api.ErrPower)
	c.Power()
	wantFailed(t, c, 3, false)
	wantWrite(t, c, 24, 0, fill(0), nil)
	wantErase(t, c, 3, api.ErrFail)
	wantWrite(t, c, 24, 1, fill(0), api.ErrFail)
}

// TestBothFailures: of one block, each waits for its own step.
func TestBothFailures(t *testing.T) {
	for _, eraseFirst := range []bool{false, true} {
		c := nand.New()
		must(t, c.FailErase(0))
		must(t, c.FailProgram(0, 2))
		must(t, c.FailErase(0))
		wantWrite(t, c, 0, 0, fill(0), nil)
		wantWrite(t, c, 0, 1, fill(0), nil)
		if eraseFirst {
			wantErase(t, c, 0, api.ErrFail)
		}
		wantFailed(t, c, 0, eraseFirst)
		wantWrite(t, c, 0, 2, fill(0), api.ErrFail)
		wantFailed(t, c, 0, true)
		wantErase(t, c, 0, api.ErrFail)
	}
}

// TestFailuresWithoutPower: they may be said, and they hold when the power is back.
func TestFailuresWithoutPower(t *testing.T) {
	c := nand.New()
	off(t, c)
	want := see(t, c)
	must(t, c.FailProgram(7, 1))
	must(t, c.FailErase(8))
	want.writes[7], want.eraseFails[8] = 1, true
	wantSight(t, "behind failures said without power", c, want)
	c.Power()
	wantWrite(t, c, 56, 0, fill(0), nil)
	wantWrite(t, c, 56, 1, fill(0), api.ErrFail)
	wantErase(t, c, 8, api.ErrFail)
}

func TestFailuresOfWrongArguments(t *testing.T) {
	c := nand.New()
	busy(t, c)
	must(t, c.FailProgram(0, 3))
	wrong := func() {
		t.Helper()
		before := see(t, c)
		for _, b := range outside(blocks) {
			wantErr(t, fmt.Sprintf("FailProgram(%d, 0)", b), c.FailProgram(b, 0), api.ErrArg)
			wantErr(t, fmt.Sprintf("FailProgram(%d, -1)", b), c.FailProgram(b, -1), api.ErrArg)
			wantErr(t, fmt.Sprintf("FailErase(%d)", b), c.FailErase(b), api.ErrArg)
		}
		for _, after := range minus() {
			wantErr(t, fmt.Sprintf("FailProgram(0, %d)", after), c.FailProgram(0, after), api.ErrArg)
			wantErr(t, fmt.Sprintf("FailProgram(11, %d)", after), c.FailProgram(11, after), api.ErrArg)
		}
		wantSight(t, "behind failures that may not be", c, before)
	}
	wrong()
	off(t, c)
	wrong()
}

func TestCut(t *testing.T) {
	for _, n := range []int{0, 1, 2, 7, 20} {
		c := nand.New()
		must(t, c.Cut(n))
		wantOn(t, c, true)
		for i := range n {
			if i%2 == 0 {
				wantWrite(t, c, i, 0, fill(i), nil)
			} else {
				wantErase(t, c, i%blocks, nil)
			}
			wantOn(t, c, true)
		}
		wantRead(t, c, 95, same(0xff, pageBytes))
		if n%2 == 0 {
			wantErase(t, c, 11, api.ErrPower)
		} else {
			wantWrite(t, c, 95, 0, fill(0), api.ErrPower)
		}
		wantOn(t, c, false)
		wantSteps(t, c, n)
		wantNoRead(t, c, 95, api.ErrPower)
		wantReads(t, c, 11, 1)
	}
}

// TestCutTwice: the later one counts, be it less or more.
func TestCutTwice(t *testing.T) {
	for _, first := range []int{0, 2, 9, math.MaxInt} {
		for _, second := range []int{0, 1, 3, 12} {
			c := nand.New()
			must(t, c.Cut(first))
			if first > 0 {
				wantErase(t, c, 0, nil)
			}
			must(t, c.Cut(second))
			for i := range second {
				wantErase(t, c, i%blocks, nil)
			}
			wantErase(t, c, 0, api.ErrPower)
		}
	}
}

// TestCutWithoutPower: it does nothing, also behind the power's return.
func TestCutWithoutPower(t *testing.T) {
	for _, n := range []int{0, 1, 5, math.MaxInt} {
		c := nand.New()
		off(t, c)
		before := see(t, c)
		must(t, c.Cut(n))
		wantSight(t, "behind a cut without power", c, before)
		wantErase(t, c, 1, api.ErrPower)
		c.Power()
		wantSight(t, "behind the power's return", c, newSight())
	}
}

func TestCutFarAhead(t *testing.T) {
	c, want := nand.New(), newSight()
	for _, n := range []int{math.MaxInt, math.MaxInt32, 1 << 32, 1000} {
		must(t, c.Cut(n))
		for b := range blocks {
			wantErase(t, c, b, nil)
			want.steps++
		}
		wantSight(t, "behind a cut far ahead", c, want)
	}
}

func TestCutOfWrongArguments(t *testing.T) {
	c := nand.New()
	busy(t, c)
	wrong := func() {
		t.Helper()
		before := see(t, c)
		for _, n := range minus() {
			wantErr(t, fmt.Sprintf("Cut(%d)", n), c.Cut(n), api.ErrArg)
		}
		wantSight(t, "behind cuts that may not be", c, before)
	}
	wrong()
	must(t, c.Cut(0))
	wrong()
	off(t, c)
	wrong()
	c.Power()
	wrong()
}

// TestPower: it takes a budget away, with the power on and off, and nothing else.
func TestPower(t *testing.T) {
	c := nand.New()
	busy(t, c)
	want := see(t, c)
	c.Power()
	want.budget = many
	wantSight(t, "Power with the power on", c, want)
	c.Power()
	wantSight(t, "Power without a budget", c, want)
	must(t, c.Cut(0))
	c.Power()
	wantSight(t, "Power at a budget of 0", c, want)
	off(t, c)
	c.Power()
	wantSight(t, "Power with the power off", c, want)
	wantErase(t, c, 0, nil)
	for range 3 {
		off(t, c)
		c.Power()
		wantOn(t, c, true)
	}
}

func TestLookingOnOfWrongArguments(t *testing.T) {
	c := nand.New()
	busy(t, c)
	wrong := func() {
		t.Helper()
		before := see(t, c)
		for _, b := range outside(blocks) {
			if n, err := c.Reads(b); n != 0 || err != api.ErrArg {
				t.Errorf("Reads(%d): %d, %v, want ErrArg alone", b, n, err)
			}
			if is, err := c.Failed(b); is || err != api.ErrArg {
				t.Errorf("Failed(%d): %t, %v, want ErrArg alone", b, is, err)
			}
		}
		for _, at := range outside(all) {
			wantNoChunk(t, c, at, 0)
			wantNoChunk(t, c, at, 4)
		}
		for _, chunk := range outside(chunks) {
			wantNoChunk(t, c, 0, chunk)
			wantNoChunk(t, c, 95, chunk)
		}
		wantSight(t, "behind looks at what there isn't", c, before)
	}
	wrong()
	off(t, c)
	wrong()
}

func wantNoChunk(t *testing.T, c *nand.Chip, at, chunk int) {
	t.Helper()
	if d, w, err := c.Damage(at, chunk); d != 0 || w != 0 || err != api.ErrArg {
		t.Errorf("Damage(%d, %d): %d, %d, %v, want ErrArg alone", at, chunk, d, w, err)
	}
	if b, is, err := c.Truth(at, chunk); b != nil || is || err != api.ErrArg {
		t.Errorf("Truth(%d, %d): %x, %t, %v, want ErrArg alone", at, chunk, b, is, err)
	}
}

// TestLookingOnChangesNothing: with the power on and off.
func TestLookingOnChangesNothing(t *testing.T) {
	c := nand.New()
	busy(t, c)
	for range 2 {
		before := see(t, c)
		for range 3 {
			wantSight(t, "behind a look", c, before)
		}
		off(t, c)
	}
}
