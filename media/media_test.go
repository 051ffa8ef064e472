package media_test

import (
	"bytes"
	"sync"
	"testing"

	"patina/api"
	"patina/media"
	"patina/nand"
)

// The examples of the chapter's table, one behind the other.
func TestExamples(t *testing.T) {
	c := nand.New()
	m := media.New(c)
	wantRead(t, m, 0, api.Page{})
	g, data := api.Tag{Seq: 1}, make([]byte, 174)
	wantProgram(t, m, 0, g, data, nil)
	wantRead(t, m, 0, api.Page{Tagged: true, Tag: g, Sound: true, Data: data})
	wantReads(t, m, 3)
	wantProgram(t, m, 0, g, data, api.ErrProgrammed)
	wantProgram(t, m, 1, g, data, api.ErrArg)
	wantProgram(t, m, 2, api.Tag{Place: 2}, data, api.ErrArg)
	must(t, c.Flip(0, 0))
	must(t, c.Flip(0, 1600))
	wantRead(t, m, 0, api.Page{Tagged: true, Tag: g, Sound: true, Data: data, Damage: 1})
	must(t, c.Cut(2))
	wantProgram(t, m, 3, api.Tag{Place: 3, Seq: 1}, data, api.ErrPower)
	for chunk, want := range []bool{true, true, false, false} {
		if _, programmed, err := c.Truth(3, chunk); programmed != want || err != nil {
			t.Errorf("Truth(3, %d): %t, %v, want %t", chunk, programmed, err, want)
		}
	}
}

// P8.1: the chip is the same one.

func TestNewDoesNothingToTheChip(t *testing.T) {
	for name, c := range stands(t) {
		before := see(t, c)
		m := media.New(c)
		wantReads(t, m, 0)
		wantSight(t, name+": New", c, before)
	}
}

// stands are chips in all ways that a chip may stand.
func stands(t *testing.T) map[string]*nand.Chip {
	t.Helper()
	out := map[string]*nand.Chip{"new": nand.New(), "busy": nand.New(), "at its end": nand.New(), "off": nand.New()}
	for _, name := range []string{"busy", "at its end", "off"} {
		busy(t, out[name])
	}
	must(t, out["at its end"].Cut(0))
	off(t, out["off"])
	return out
}

// busy lets something of every kind lie on a chip: pages 0 to 5 whole, 8 to 11 in part, 16 decayed; block 3 has failed, 4 and 5 are to fail.
func busy(t *testing.T, c *nand.Chip) {
	t.Helper()
	s := source(1)
	for at := range 6 {
		write(t, c, at, laid(s.data(), s.tag(at)), chunks)
	}
	for n := range 4 {
		write(t, c, 8+n, laid(s.data(), s.tag(8+n)), n)
	}
	write(t, c, 16, laid(s.data(), s.tag(16)), chunks)
	for chunk := range chunks {
		s.harm(t, c, 16, chunk, chunk)
	}
	failed(t, c, 3)
	must(t, c.FailProgram(4, 2))
	must(t, c.FailErase(5))
	for at := range 20 {
		_, err := c.Read(at)
		must(t, err)
	}
}

// write programs the first n chunks of a page, by the chip's own calls.
func write(t *testing.T, c *nand.Chip, at int, of [chunks][]byte, n int) {
	t.Helper()
	for i := range n {
		must(t, c.Write(at, i, of[i]))
	}
}

func TestWhatOthersDoIsSeen(t *testing.T) {
	c := nand.New()
	m := media.New(c)
	s := source(2)
	data, g := s.data(), s.tag(9)
	write(t, c, 9, laid(data, g), 3)
	wantRead(t, m, 9, api.Page{})
	must(t, c.Write(9, 3, laid(data, g)[3]))
	wantRead(t, m, 9, whole(g, data, 0))
	must(t, c.Flip(9, 700))
	wantRead(t, m, 9, whole(g, data, 1))
	must(t, c.Flip(9, 700))
	wantRead(t, m, 9, whole(g, data, 0))
	wantProgram(t, m, 9, g, data, api.ErrProgrammed)
	must(t, c.Erase(1))
	wantRead(t, m, 9, api.Page{})
	wantProgram(t, m, 9, g, data, nil)
	must(t, c.FailProgram(2, 0))
	wantProgram(t, m, 16, s.tag(16), data, api.ErrFail)
	must(t, c.FailErase(5))
	wantErase(t, m, 5, api.ErrFail)
	failed(t, c, 6)
	wantErase(t, m, 6, api.ErrFail)
	wantProgram(t, m, 48, s.tag(48), data, api.ErrFail)
	must(t, c.Cut(1))
	wantErase(t, m, 7, nil)
	wantErase(t, m, 7, api.ErrPower)
	wantNoRead(t, m, 9, api.ErrPower)
	c.Power()
	wantRead(t, m, 9, whole(g, data, 0))
	off(t, c)
	wantNoRead(t, m, 9, api.ErrPower)
	c.Power()
	wantErase(t, m, 1, nil)
	wantRead(t, m, 9, api.Page{})
}

func TestWhatIsDoneIsSeenByTheChip(t *testing.T) {
	c := nand.New()
	m := media.New(c)
	s := source(3)
	for at := range all {
		d := c.Clone()
		data, g := s.data(), s.tag(at)
		wantProgram(t, m, at, g, data, nil)
		write(t, d, at, laid(data, g), chunks)
		_, err := d.Read(at)
		must(t, err)
		wantAlike(t, "Program", c, d)
	}
	for at := range all {
		d := c.Clone()
		_, err := d.Read(at)
		must(t, err)
		if _, err := m.Read(at); err != nil {
			t.Errorf("Read(%d): %v", at, err)
		}
		wantAlike(t, "Read", c, d)
	}
	for b := range blocks {
		d := c.Clone()
		must(t, d.Erase(b))
		wantErase(t, m, b, nil)
		wantAlike(t, "Erase", c, d)
	}
}

// Two media of one chip see what the other did; a clone's media doesn't.
func TestSeveralMedia(t *testing.T) {
	c := nand.New()
	first, second := media.New(c), media.New(c)
	apart := media.New(c.Clone())
	s := source(4)
	data, g := s.data(), s.tag(40)
	wantProgram(t, first, 40, g, data, nil)
	wantRead(t, second, 40, whole(g, data, 0))
	wantProgram(t, second, 40, g, data, api.ErrProgrammed)
	wantRead(t, apart, 40, api.Page{})
	wantErase(t, second, 5, nil)
	wantRead(t, first, 40, api.Page{})
	wantReads(t, first, 2)
	wantReads(t, second, 1)
	wantReads(t, apart, 1)
	if first == second {
		t.Error("New gave the same media twice")
	}
}

// P8.4: Erase.

func TestEraseOfEveryBlock(t *testing.T) {
	s := source(5)
	for b := range blocks {
		c := nand.New()
		m := media.New(c)
		var want [all]api.Page
		for at := range all {
			data, g := s.data(), s.tag(at)
			wantProgram(t, m, at, g, data, nil)
			want[at] = whole(g, data, 0)
		}
		d := c.Clone()
		wantErase(t, m, b, nil)
		must(t, d.Erase(b))
		wantAlike(t, "Erase", c, d)
		for at := range all {
			if at/pages == b {
				want[at] = api.Page{}
			}
			wantRead(t, m, at, want[at])
		}
	}
}

func TestEraseBeyondTheEnds(t *testing.T) {
	for name, c := range stands(t) {
		m := media.New(c)
		before := see(t, c)
		for _, block := range outside(blocks) {
			wantErase(t, m, block, api.ErrArg)
		}
		wantSight(t, name+": an Erase of no block", c, before)
		wantReads(t, m, 0)
	}
}

func TestEraseThatFails(t *testing.T) {
	for b := range blocks {
		c := nand.New()
		m := media.New(c)
		s := source(6)
		data, g := s.data(), s.tag(b*pages)
		wantProgram(t, m, b*pages, g, data, nil)
		must(t, c.FailErase(b))
		d := c.Clone()
		for range 2 {
			wantErase(t, m, b, api.ErrFail)
			wantErr(t, "the chip's Erase", d.Erase(b), api.ErrFail)
			wantAlike(t, "Erase that fails", c, d)
		}
		wantRead(t, m, b*pages, whole(g, data, 0))
		wantErase(t, m, (b+1)%blocks, nil)
	}
}

func TestEraseWithoutPower(t *testing.T) {
	for b := range blocks {
		c := nand.New()
		m := media.New(c)
		s := source(7)
		data, g := s.data(), s.tag(b*pages)
		wantProgram(t, m, b*pages, g, data, nil)
		must(t, c.Cut(0))
		wantErase(t, m, b, api.ErrPower)
		wantErase(t, m, b, api.ErrPower)
		wantErase(t, m, 12, api.ErrArg)
		if c.On() {
			t.Error("the power is on, behind a step without a budget")
		}
		c.Power()
		wantRead(t, m, b*pages, whole(g, data, 0))
	}
}

// P8.5: Reads.

func TestReads(t *testing.T) {
	c := nand.New()
	m, other := media.New(c), media.New(c)
	s := source(8)
	data := s.data()
	reads := 0
	step := func(what string, more int, got, want error) {
		t.Helper()
		wantErr(t, what, got, want)
		reads += more
		wantReads(t, m, reads)
		wantReads(t, other, 0)
	}
	read := func(at int) error {
		_, err := m.Read(at)
		return err
	}
	step("Read of a new page", 1, read(0), nil)
	step("Read beyond the end", 0, read(96), api.ErrArg)
	step("Program", 1, m.Program(1, api.Tag{Place: 1, Seq: 1}, data), nil)
	step("Read of what was programmed", 1, read(1), nil)
	step("Program that is refused", 0, m.Program(1, api.Tag{Place: 1}, data), api.ErrArg)
	step("Program once more", 0, m.Program(1, api.Tag{Place: 1, Seq: 1}, data), api.ErrProgrammed)
	step("Erase", 0, m.Erase(3), nil)
	step("Erase beyond the end", 0, m.Erase(12), api.ErrArg)
	must(t, c.FailErase(4))
	step("Erase that fails", 0, m.Erase(4), api.ErrFail)
	must(t, c.FailProgram(5, 3))
	step("Program that fails", 0, m.Program(40, api.Tag{Place: 40, Seq: 1}, data), api.ErrFail)
	step("Read of what failed", 1, read(40), nil)
	must(t, c.Cut(3))
	step("Program that is cut off", 0, m.Program(2, api.Tag{Place: 2, Seq: 1}, data), api.ErrPower)
	step("Read without power", 0, read(1), api.ErrPower)
	step("Program without power", 0, m.Program(3, api.Tag{Place: 3, Seq: 1}, data), api.ErrPower)
	step("Erase without power", 0, m.Erase(0), api.ErrPower)
	c.Power()
	step("Read of what was cut off", 1, read(2), nil)
	must(t, c.Cut(4))
	step("Program with the last steps of a budget", 1, m.Program(3, api.Tag{Place: 3, Seq: 1}, data), nil)
	step("Read at a budget's end", 1, read(3), nil)
	c.Power()
	step("Erase of what was read", 0, m.Erase(0), nil)
	if _, err := c.Read(1); err != nil {
		t.Fatal(err)
	}
	step("a read of the chip by another", 0, nil, nil)
	if _, err := other.Read(1); err != nil {
		t.Fatal(err)
	}
	wantReads(t, m, reads)
	wantReads(t, other, 1)
	wantReads(t, media.New(c), 0)
}

// All reads are counted, however many there are at once, and all see their page.
func TestManyReaders(t *testing.T) {
	const readers, each = 16, 200
	c := nand.New()
	m := media.New(c)
	s := source(9)
	var want [readers]api.Page
	for r := range readers {
		data, g := s.data(), s.tag(r)
		must(t, m.Program(r, g, data))
		want[r] = whole(g, data, r%3)
		s.harm(t, c, r, r%chunks, r%3)
	}
	var group sync.WaitGroup
	for r := range readers {
		group.Add(1)
		go func() {
			defer group.Done()
			last := 0
			for i := range each {
				at := (r + i) % readers
				wantRead(t, m, at, want[at])
				n := m.Reads()
				if n <= last || n > readers+readers*each {
					t.Errorf("Reads(): %d, behind %d", n, last)
				}
				last = n
			}
		}()
	}
	group.Wait()
	wantReads(t, m, readers+readers*each)
	for b := range 2 {
		if n, err := c.Reads(b); n != pages+pages*each || err != nil {
			t.Errorf("the chip's Reads(%d): %d, %v", b, n, err)
		}
	}
}

// R1: no call panics, and each ends, whatever it is given and however the chip stands. What else must hold is held elsewhere.
func TestNothingPanics(t *testing.T) {
	s := source(10)
	numbers := append(outside(all), outside(blocks)...)
	numbers = append(numbers, 0, 1, 5, 6, 7, 8, 11, 16, 95)
	for name, c := range stands(t) {
		m := media.New(c)
		for range 3000 {
			at := numbers[s.next(len(numbers))]
			g := s.anyTag(numbers)
			data := s.bytes([]int{0, 1, 58, 160, 173, 174, 174, 174, 175, 256}[s.next(10)])
			if s.next(3) == 0 {
				g.Place = at
			}
			if s.next(50) == 0 {
				m.Erase(at)
			}
			before := m.Reads()
			err := m.Program(at, g, data)
			if (err == nil) != (m.Reads() == before+1) {
				t.Errorf("%s: Program(%d, %+v, %d bytes): %v, and %d reads", name, at, g, len(data), err, m.Reads()-before)
			}
			m.Program(at, g, nil)
			m.Read(at)
		}
	}
}

// anyTag is one of any numbers, that may be or not.
func (s *source) anyTag(numbers []int) api.Tag {
	pick := func() int { return numbers[s.next(len(numbers))] }
	return api.Tag{Place: pick(), Of: pick(), Seq: int64(pick()), Copy: pick(), Lost: s.next(2) == 0}
}

// The chapter's numbers are package api's.
func TestLimits(t *testing.T) {
	if api.Blocks != blocks || api.Pages != pages || api.All != all || api.Chunks != chunks || api.Word != wordSize || api.Message != messageSize {
		t.Error("package api tells another chip")
	}
	if api.Data != dataSize || api.Point != point || api.MaxSeq != maxSeq || bodySize+len(theMark) != messageSize {
		t.Error("package api tells another page")
	}
	if !bytes.Equal([]byte(theMark), []byte{0x70, 0x61, 0x74, 0x69, 0x6e, 0x61, 0x30, 0x31}) {
		t.Error("the mark is another one")
	}
}
