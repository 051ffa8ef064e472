package nand_test

import (
	"bytes"
	"slices"
	"sync"
	"testing"

	"patina/api"
	"patina/nand"
)

// stands are chips in all ways that a chip may stand.
func stands(t *testing.T) map[string]*nand.Chip {
	t.Helper()
	out := map[string]*nand.Chip{"new": nand.New(), "busy": nand.New(), "at its end": nand.New(), "off": nand.New(), "on again": nand.New()}
	for _, name := range []string{"busy", "at its end", "off", "on again"} {
		busy(t, out[name])
	}
	must(t, out["at its end"].Cut(0))
	off(t, out["off"])
	off(t, out["on again"])
	out["on again"].Power()
	return out
}

// harm are changes of a chip, one of each kind.
func harm(t *testing.T) map[string]func(c *nand.Chip) {
	t.Helper()
	return map[string]func(c *nand.Chip){
		"Read": func(c *nand.Chip) { c.Read(0) },
		"Write": func(c *nand.Chip) {
			c.Power()
			must(t, c.Write(1, 1, fill(77)))
		},
		"Write that fails": func(c *nand.Chip) {
			c.Power()
			must(t, c.FailProgram(9, 0))
			wantWrite(t, c, 72, 0, fill(77), api.ErrFail)
		},
		"Write towards a failure": func(c *nand.Chip) {
			c.Power()
			must(t, c.Write(16, 1, fill(77)))
		},
		"Erase": func(c *nand.Chip) {
			c.Power()
			must(t, c.Erase(0))
			must(t, c.Erase(11))
		},
		"Erase that fails": func(c *nand.Chip) {
			c.Power()
			failed(t, c, 8)
		},
		"Flip": func(c *nand.Chip) {
			for at := range all {
				must(t, c.Flip(at, at*20))
			}
		},
		"FailProgram": func(c *nand.Chip) { must(t, c.FailProgram(7, 1)) },
		"FailErase":   func(c *nand.Chip) { must(t, c.FailErase(7)) },
		"Cut":         func(c *nand.Chip) { c.Power(); must(t, c.Cut(2)) },
		"Power":       func(c *nand.Chip) { c.Power() },
		"off":         func(c *nand.Chip) { off(t, c) },
	}
}

func TestCloneStandsAlike(t *testing.T) {
	for name, c := range stands(t) {
		before := see(t, c)
		d := c.Clone()
		if d == c {
			t.Fatalf("%s: a chip is its own clone", name)
		}
		wantSight(t, name+": a clone", d, before)
		wantSight(t, name+": a clone's clone", d.Clone(), before)
		wantSight(t, name+": what was cloned", c, before)
	}
}

// TestCloneReadsAlike: without a look by which clones are made.
func TestCloneReadsAlike(t *testing.T) {
	c := nand.New()
	want := make([][]byte, all)
	for at := range all {
		want[at] = same(0xff, pageBytes)
		must(t, c.Write(at, at%4, fill(at)))
		copy(want[at][at%4*word:], fill(at))
		must(t, c.Flip(at, 9*at))
		want[at][9*at/8] ^= 1 << (9 * at % 8)
		for range at / 8 {
			c.Read(at)
		}
	}
	d := c.Clone()
	for _, chip := range []*nand.Chip{d, c} {
		wantOn(t, chip, true)
		wantSteps(t, chip, all)
		for b := range blocks {
			wantReads(t, chip, b, 8*b)
			wantFailed(t, chip, b, false)
		}
		for at := range all {
			wantRead(t, chip, at, want[at])
			wantTruth(t, chip, at, at%4, fill(at), true)
			wantTruth(t, chip, at, (at+1)%4, same(0xff, word), false)
			wantDamage(t, chip, at, 9*at/512, 1, 1)
		}
		for b := range blocks {
			wantReads(t, chip, b, 8*b+8)
		}
	}
}

// TestCloneKeepsWhatIsToCome: what is to fail, the budget, and the power that is off.
func TestCloneKeepsWhatIsToCome(t *testing.T) {
	c := nand.New()
	must(t, c.FailProgram(0, 3))
	wantWrite(t, c, 0, 0, fill(0), nil)
	must(t, c.FailErase(1))
	must(t, c.Cut(5))
	d := c.Clone()
	for _, chip := range []*nand.Chip{d, c} {
		wantWrite(t, chip, 0, 1, fill(0), nil)
		wantWrite(t, chip, 0, 2, fill(0), nil)
		wantWrite(t, chip, 0, 3, fill(0), api.ErrFail)
		wantErase(t, chip, 1, api.ErrFail)
		wantErase(t, chip, 2, nil)
		wantSteps(t, chip, 6)
		wantErase(t, chip, 3, api.ErrPower)
		wantOn(t, chip, false)
		e := chip.Clone()
		wantOn(t, e, false)
		wantNoRead(t, e, 0, api.ErrPower)
		e.Power()
		wantFailed(t, e, 0, true)
		wantFailed(t, e, 1, true)
		wantOn(t, chip, false)
	}
}

// TestCloneIsAnother: what is done to one is not seen by the other, whichever of both it is.
func TestCloneIsAnother(t *testing.T) {
	for name := range stands(t) {
		for what, do := range harm(t) {
			c := stands(t)[name]
			before := see(t, c)
			d := c.Clone()
			do(d)
			wantSight(t, name+", "+what+" of the clone: what was cloned", c, before)
			after := see(t, d)
			e := c.Clone()
			do(c)
			wantSight(t, name+", "+what+" of what was cloned: the clone", e, before)
			wantSight(t, name+", "+what+" of both", c, after)
		}
	}
}

// TestArgumentsStay: what is handed in is left as it was, ahead of it and behind it too, and it isn't kept.
func TestArgumentsStay(t *testing.T) {
	c := nand.New()
	room := slicesOf(same(1, 9), fill(0), same(2, 9))
	before := slices.Clone(room)
	b := room[9 : 9+word]
	wantWrite(t, c, 4, 2, b, nil)
	wantWrite(t, c, 4, 2, b, api.ErrProgrammed)
	wantWrite(t, c, 4, 4, b, api.ErrArg)
	must(t, c.FailProgram(1, 0))
	wantWrite(t, c, 8, 0, b, api.ErrFail)
	must(t, c.Flip(4, 1024))
	must(t, c.Cut(0))
	wantWrite(t, c, 4, 3, b, api.ErrPower)
	wantWrite(t, c, 4, 3, b, api.ErrPower)
	c.Power()
	wantErase(t, c, 0, nil)
	if !bytes.Equal(room, before) {
		t.Errorf("what was handed in is %x, was %x", room, before)
	}
	wantWrite(t, c, 4, 2, b, nil)
	want := see(t, c)
	spoil(room)
	wantSight(t, "when what was handed in is spoiled", c, want)
	wantTruth(t, c, 4, 2, fill(0), true)
}

// spoil turns all bytes of a list, those of its spare room too.
func spoil(b []byte) {
	b = b[:cap(b)]
	for i := range b {
		b[i] ^= 0x5a
	}
}

// TestAnswersAreTheirOwners: they may be spoiled and grown, and neither the chip nor another answer is touched.
func TestAnswersAreTheirOwners(t *testing.T) {
	c := nand.New()
	busy(t, c)
	d := c.Clone()
	for at := range all {
		page, err := c.Read(at)
		must(t, err)
		again, err := c.Read(at)
		must(t, err)
		other, err := d.Read(at)
		must(t, err)
		was := slices.Clone(page)
		spoil(page)
		spoil(append(page, 1, 2, 3))
		if !bytes.Equal(again, was) || !bytes.Equal(other, was) {
			t.Fatalf("Read(%d): two answers share memory", at)
		}
		wantRead(t, c, at, was)
		for chunk := range chunks {
			wantOwnTruth(t, c, d, at, chunk)
		}
	}
	for b := range blocks {
		must(t, setReads(c, d, b))
	}
	wantSight(t, "when all answers are spoiled", c, see(t, d))
}

func wantOwnTruth(t *testing.T, c, d *nand.Chip, at, chunk int) {
	t.Helper()
	truth, programmed, err := c.Truth(at, chunk)
	must(t, err)
	again, _, err := c.Truth(at, chunk)
	must(t, err)
	other, _, err := d.Truth(at, chunk)
	must(t, err)
	was := slices.Clone(truth)
	spoil(truth)
	spoil(append(truth, 1, 2, 3))
	if !bytes.Equal(again, was) || !bytes.Equal(other, was) {
		t.Fatalf("Truth(%d, %d): two answers share memory", at, chunk)
	}
	wantTruth(t, c, at, chunk, was, programmed)
}

// setReads reads pages of the second chip until both were read as often.
func setReads(c, d *nand.Chip, block int) error {
	n, _ := c.Reads(block)
	for m, _ := d.Reads(block); m < n; m++ {
		if _, err := d.Read(block * pages); err != nil {
			return err
		}
	}
	return nil
}

// TestManyReaders: all reads are counted, each of its own block, however many there are at once, and all see the page.
func TestManyReaders(t *testing.T) {
	const readers, each = 16, 4000
	c := nand.New()
	must(t, c.Write(0, 0, fill(0)))
	must(t, c.Flip(0, 900))
	page := slicesOf(fill(0), same(0xff, 3*word))
	page[112] ^= 1 << 4
	want := [blocks]int{readers * each}
	var group sync.WaitGroup
	for r := range readers {
		block := 1 + r%(blocks-1)
		want[block] += each
		group.Add(1)
		go func() {
			defer group.Done()
			for i := range each {
				wantRead(t, c, 0, page)
				wantRead(t, c, block*pages+i%pages, same(0xff, pageBytes))
			}
		}()
	}
	group.Wait()
	for b := range blocks {
		wantReads(t, c, b, want[b])
	}
	wantSteps(t, c, 1)
}

// TestReadersAndLookersOn: what changes nothing may be asked beside them.
func TestReadersAndLookersOn(t *testing.T) {
	const readers, each = 8, 300
	c := nand.New()
	must(t, c.Write(5, 1, fill(0)))
	var group sync.WaitGroup
	for range readers {
		group.Add(2)
		go func() {
			defer group.Done()
			for range each {
				c.Read(5)
			}
		}()
		go func() {
			defer group.Done()
			last := 0
			for range each / 10 {
				n, err := c.Clone().Reads(0)
				if err != nil || n < last || n > readers*each || !c.On() || c.Steps() != 1 {
					t.Errorf("a clone beside readers: %d reads behind %d, %v", n, last, err)
				}
				last = n
			}
		}()
	}
	group.Wait()
	wantReads(t, c, 0, readers*each)
}
