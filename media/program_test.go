package media_test

import (
	"fmt"
	"testing"

	"patina/api"
	"patina/media"
	"patina/nand"
)

// P8.3: Program.

func TestProgramOfEveryPage(t *testing.T) {
	s := source(40)
	for at := range all {
		for _, g := range tagsOf(at) {
			data := s.data()
			c := nand.New()
			m := media.New(c)
			wantProgram(t, m, at, g, data, nil)
			for i, chunk := range laid(data, g) {
				wantChunk(t, c, at, i, chunk)
			}
			if steps := c.Steps(); steps != chunks {
				t.Errorf("Program(%d): %d steps", at, steps)
			}
			wantRead(t, m, at, whole(g, data, 0))
			wantReads(t, m, 2)
		}
	}
}

// wantChunk holds what a chunk was programmed with; nil: it wasn't.
func wantChunk(t *testing.T, c *nand.Chip, at, chunk int, want []byte) {
	t.Helper()
	truth, programmed, err := c.Truth(at, chunk)
	if err != nil || programmed != (want != nil) || programmed && string(truth) != string(want) {
		t.Errorf("Truth(%d, %d): % x, %t, %v, want % x", at, chunk, truth, programmed, err, want)
	}
}

// wantFirst holds that of a page the first n chunks are programmed so, and no other one.
func wantFirst(t *testing.T, c *nand.Chip, at, n int, of [chunks][]byte) {
	t.Helper()
	for i := range chunks {
		if i < n {
			wantChunk(t, c, at, i, of[i])
		} else {
			wantChunk(t, c, at, i, nil)
		}
	}
}

// ask is what Program is asked.
type ask struct {
	at   int
	tag  api.Tag
	data []byte
}

// wrong are ways to spoil what Program is asked, each of which it must refuse, whatever else is asked.
func wrong() map[string]func(a *ask) {
	out := map[string]func(a *ask){
		"data nil":         func(a *ask) { a.data = nil },
		"Of below 0":       func(a *ask) { a.tag.Of = -1 },
		"Of 25":            func(a *ask) { a.tag.Of = 25 },
		"Of by a byte":     func(a *ask) { a.tag.Of = 256 },
		"Seq 0":            func(a *ask) { a.tag.Seq = 0 },
		"Seq below 0":      func(a *ask) { a.tag.Seq = -1 },
		"Seq too great":    func(a *ask) { a.tag.Seq = maxSeq + 1 },
		"Copy below 0":     func(a *ask) { a.tag.Copy = -1 },
		"Copy 256":         func(a *ask) { a.tag.Copy = 256 },
		"Point lost":       func(a *ask) { a.tag.Of, a.tag.Lost = point, true },
		"no place for Of":  func(a *ask) { a.at, a.tag.Place, a.tag.Of = 6, 6, 3 },
		"nor the last one": func(a *ask) { a.at, a.tag.Place, a.tag.Of = 95, 95, 0 },
		"the next page's":  func(a *ask) { a.tag.Place++ },
		"the one ahead's":  func(a *ask) { a.tag.Place-- },
		"another block's":  func(a *ask) { a.at += pages },
	}
	for _, n := range []int{0, 1, 58, 160, 173, 175, 256, 1000} {
		out[fmt.Sprintf("data of %d bytes", n)] = func(a *ask) { a.data = make([]byte, n) }
	}
	for _, at := range outside(all) {
		out[fmt.Sprintf("at %d", at)] = func(a *ask) { a.at = at }
		out[fmt.Sprintf("at and Place %d", at)] = func(a *ask) { a.at, a.tag.Place = at, at }
		out[fmt.Sprintf("Place %d", at)] = func(a *ask) { a.tag.Place = at }
	}
	return out
}

// grounds are chips, each with a page at which something else than ErrArg would be answered.
func grounds(t *testing.T) map[string]*nand.Chip {
	t.Helper()
	s := source(41)
	out := map[string]*nand.Chip{"new": nand.New(), "programmed": nand.New(), "in part": nand.New(), "failed": nand.New(), "at its end": nand.New(), "off": nand.New()}
	write(t, out["programmed"], 20, laid(s.data(), s.tag(20)), chunks)
	write(t, out["in part"], 20, laid(s.data(), s.tag(20)), 2)
	failed(t, out["failed"], 2)
	must(t, out["at its end"].Cut(0))
	off(t, out["off"])
	return out
}

// asked is what Program may be asked on each of them.
func asked() *ask {
	return &ask{20, api.Tag{Place: 20, Of: 11, Seq: 99, Copy: 4}, make([]byte, dataSize)}
}

// Each thing that may not be, alone: it is told ahead of all else, and the chip stays as it was.
func TestProgramRefuses(t *testing.T) {
	for name, c := range grounds(t) {
		m := media.New(c)
		before := see(t, c)
		for what, spoil := range wrong() {
			a := asked()
			spoil(a)
			if err := m.Program(a.at, a.tag, a.data); err != api.ErrArg {
				t.Errorf("%s, %s: Program: %v", name, what, err)
			}
		}
		wantSight(t, name+": Program that is refused", c, before)
		wantReads(t, m, 0)
	}
	wants := map[string]error{"new": nil, "programmed": api.ErrProgrammed, "in part": api.ErrProgrammed, "failed": api.ErrFail, "at its end": api.ErrPower, "off": api.ErrPower}
	for name, c := range grounds(t) {
		a := asked()
		wantErr(t, name, media.New(c).Program(a.at, a.tag, a.data), wants[name])
	}
}

// Some of them at a time.
func TestProgramRefusesSeveral(t *testing.T) {
	// Two that spoil the same thing might mend each other: these don't.
	several := map[string]func(a *ask){
		"at":    func(a *ask) { a.at = 96 },
		"Place": func(a *ask) { a.tag.Place = -1 },
		"Of":    func(a *ask) { a.tag.Of = 25 },
		"Seq":   func(a *ask) { a.tag.Seq = 0 },
		"Copy":  func(a *ask) { a.tag.Copy = 256 },
		"data":  func(a *ask) { a.data = a.data[:173] },
	}
	names := []string{"at", "Place", "Of", "Seq", "Copy", "data"}
	for name, c := range grounds(t) {
		m := media.New(c)
		before := see(t, c)
		for set := 1; set < 1<<len(names); set++ {
			a := asked()
			what := name
			for i, n := range names {
				if set>>i&1 == 1 {
					several[n](a)
					what += ", " + n
				}
			}
			if err := m.Program(a.at, a.tag, a.data); err != api.ErrArg {
				t.Errorf("%s: Program: %v", what, err)
			}
		}
		wantSight(t, name+": Program that is refused", c, before)
		wantReads(t, m, 0)
	}
}

// A page that is programmed whole stays as it is, and nothing is counted.
func TestProgramTwice(t *testing.T) {
	s := source(42)
	for at := range all {
		c := nand.New()
		m := media.New(c)
		data, g := s.data(), s.tag(at)
		wantProgram(t, m, at, g, data, nil)
		before := see(t, c)
		wantProgram(t, m, at, g, data, api.ErrProgrammed)
		wantProgram(t, m, at, s.tag(at), s.data(), api.ErrProgrammed)
		wantSight(t, "Program once more", c, before)
		wantReads(t, m, 1)
	}
}

// Where a chunk is programmed, those ahead of it are written, and no others.
func TestProgramOfPagesProgrammedInPart(t *testing.T) {
	s := source(43)
	for set := 1; set < 1<<chunks; set++ {
		at := s.next(all)
		c := nand.New()
		m := media.New(c)
		old := laid(s.data(), s.tag(at))
		first := chunks
		for i := chunks - 1; i >= 0; i-- {
			if set>>i&1 == 1 {
				must(t, c.Write(at, i, old[i]))
				first = i
			}
		}
		steps := c.Steps()
		data, g := s.data(), s.tag(at)
		wantProgram(t, m, at, g, data, api.ErrProgrammed)
		for i, chunk := range laid(data, g) {
			switch {
			case i < first:
				wantChunk(t, c, at, i, chunk)
			case set>>i&1 == 1:
				wantChunk(t, c, at, i, old[i])
			default:
				wantChunk(t, c, at, i, nil)
			}
		}
		if n := c.Steps() - steps; n != first {
			t.Errorf("the chunks %04b were programmed: %d steps, want %d", set, n, first)
		}
		wantReads(t, m, 0)
	}
}

// A failure at each chunk in turn; what is to come behind the fourth doesn't touch the reading back.
func TestProgramThatFails(t *testing.T) {
	s := source(44)
	for at := range all {
		for n := range chunks + 1 {
			c := nand.New()
			m := media.New(c)
			data, g := s.data(), s.tag(at)
			must(t, c.FailProgram(at/pages, n))
			want, reads, steps := error(api.ErrFail), 0, n+1
			if n == chunks {
				want, reads, steps = nil, 1, chunks
			}
			wantProgram(t, m, at, g, data, want)
			wantFirst(t, c, at, n, laid(data, g))
			wantReads(t, m, reads)
			if got, err := c.Failed(at / pages); got != (n < chunks) || err != nil || c.Steps() != steps {
				t.Errorf("a failure at the write %d: failed %t, %v, %d steps", n, got, err, c.Steps())
			}
			if n < chunks {
				wantRead(t, m, at, api.Page{})
			}
		}
	}
}

// A block that has failed programs nothing, and each try is a step.
func TestProgramOfAFailedBlock(t *testing.T) {
	s := source(45)
	for b := range blocks {
		c := nand.New()
		m := media.New(c)
		failed(t, c, b)
		d := c.Clone()
		for i := range pages {
			at := b*pages + i
			data, g := s.data(), s.tag(at)
			wantProgram(t, m, at, g, data, api.ErrFail)
			wantErr(t, "the chip's Write", d.Write(at, 0, laid(data, g)[0]), api.ErrFail)
			wantAlike(t, "Program of a failed block", c, d)
		}
		wantReads(t, m, 0)
	}
}

// The power goes at each chunk in turn; a budget of four is enough, as reading is no step.
func TestProgramThatIsCutOff(t *testing.T) {
	s := source(46)
	for at := range all {
		for n := range chunks + 1 {
			c := nand.New()
			m := media.New(c)
			data, g := s.data(), s.tag(at)
			must(t, c.Cut(n))
			want, reads := error(api.ErrPower), 0
			if n == chunks {
				want, reads = nil, 1
			}
			wantProgram(t, m, at, g, data, want)
			if c.On() != (n == chunks) || c.Steps() != n {
				t.Errorf("a budget of %d: on %t, %d steps", n, c.On(), c.Steps())
			}
			wantFirst(t, c, at, n, laid(data, g))
			wantReads(t, m, reads)
			c.Power()
			page := api.Page{}
			if n == chunks {
				page = whole(g, data, 0)
			}
			wantRead(t, m, at, page)
		}
	}
}

func TestProgramWithoutPower(t *testing.T) {
	s := source(47)
	c := nand.New()
	m := media.New(c)
	write(t, c, 1, laid(s.data(), s.tag(1)), chunks)
	failed(t, c, 1)
	off(t, c)
	before := see(t, c)
	for _, at := range []int{0, 1, 8, 95} {
		wantProgram(t, m, at, s.tag(at), s.data(), api.ErrPower)
	}
	wantSight(t, "Program without power", c, before)
	wantReads(t, m, 0)
}

// firstError is what stops Program first, if those chunks are the ones that is programmed, at which the power goes, and that fails.
func firstError(programmed, cut, fails int) error {
	for i := range chunks {
		switch i {
		case programmed:
			return api.ErrProgrammed
		case cut:
			return api.ErrPower
		case fails:
			return api.ErrFail
		}
	}
	return nil
}

// Of several things that stop it the first that the chip meets is told.
func TestProgramTellsTheFirstError(t *testing.T) {
	s := source(48)
	for n := range 5 * 5 * 5 {
		programmed, cut, fails := n%5, n/5%5, n/25
		c := nand.New()
		m := media.New(c)
		if programmed < chunks {
			must(t, c.Write(3, programmed, s.bytes(wordSize)))
		}
		must(t, c.Cut(cut))
		must(t, c.FailProgram(0, fails))
		d := c.Clone()
		data, g := s.data(), s.tag(3)
		wantProgram(t, m, 3, g, data, firstError(programmed, cut, fails))
		if err := writeAll(d, 3, laid(data, g)); err == nil {
			d.Read(3)
		}
		wantAlike(t, "Program that stops", c, d)
	}
}

// writeAll writes a page's chunks by the chip's own calls, up to the first error.
func writeAll(c *nand.Chip, at int, of [chunks][]byte) error {
	for i, chunk := range of {
		if err := c.Write(at, i, chunk); err != nil {
			return err
		}
	}
	return nil
}

// What was turned ahead of it in a page that is erased is gone behind it.
func TestProgramOfAPageThatDecayed(t *testing.T) {
	s := source(49)
	for at := range all {
		c := nand.New()
		m := media.New(c)
		for chunk := range chunks {
			s.harm(t, c, at, chunk, 1+s.next(40))
		}
		data, g := s.data(), s.tag(at)
		wantProgram(t, m, at, g, data, nil)
		wantRead(t, m, at, whole(g, data, 0))
	}
}
