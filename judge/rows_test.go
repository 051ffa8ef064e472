package judge_test

import (
	"math"
	"slices"
	"strconv"
	"testing"

	"patina/api"
)

// P23.1: each row of the table, with each reply that may be there, and with each that may not.

// replies are all replies that are tried: each Code and others, without Data and with Data of any kind.
func replies() []api.Reply {
	codes := []api.Code{math.MinInt, -1, 20, 21, 255, 256, math.MaxInt}
	for c := range api.Code(20) {
		codes = append(codes, c)
	}
	changed := filled(5)
	changed[159] ^= 1
	datas := [][]byte{nil, {}, {0}, noughts()[:159], noughts(), make([]byte, 161), filled(5), changed, filled(5)[:159], append(filled(5), 0), make([]byte, 320)}
	var l []api.Reply
	for _, c := range codes {
		for _, d := range datas {
			l = append(l, api.Reply{Code: c, Data: d})
		}
	}
	return l
}

// may is what may be answered: some Codes without Data, and 0 with some texts, or with any of 160 bytes.
type may struct {
	codes []api.Code
	texts [][]byte
	any   bool
}

// has tells whether a reply is among them.
func (m may) has(r api.Reply) bool {
	if len(r.Data) == 0 {
		return slices.Contains(m.codes, r.Code)
	}
	if r.Code != 0 {
		return false
	}
	return m.any && len(r.Data) == 160 || slices.ContainsFunc(m.texts, func(b []byte) bool { return string(b) == string(r.Data) })
}

// wantMay holds a step behind a list, with each reply: the list ends with what is ahead of it.
func wantMay(t *testing.T, name string, l []api.Entry, of api.Step, behind api.Look, m may) {
	t.Helper()
	for _, r := range replies() {
		number := len(l)
		if m.has(r) {
			number = -1
		}
		all := append(slices.Clone(l), entry(of, r, behind))
		want(t, name+": code "+strconv.Itoa(int(r.Code)), all, number)
		if told(all) != number {
			t.Fatalf("%s: it is told otherwise, of %s", name, shown(all))
		}
	}
}

// behindLook is a list behind which that look is what is seen ahead; it tells nothing of the sectors.
func behindLook(l api.Look) []api.Entry { return []api.Entry{entry(step(10), code(0), l)} }

// only are these Codes without Data.
func only(codes ...api.Code) may { return may{codes: codes} }

// reads are these texts, and these Codes without Data.
func reads(texts [][]byte, codes ...api.Code) may { return may{codes: codes, texts: texts} }

var (
	off   = api.Look{}                                    // the power went
	idle  = api.Look{On: true}                            // it is on, and the device isn't mounted
	dark  = api.Look{Mounted: true}                       // no world is so
	worn  = api.Look{On: true, Mounted: true, Worn: true} // more blocks failed than may
	wornX = api.Look{Worn: true}                          // and the power went
)

// looks are looks of all kinds, but Broken ones.
func looks() []api.Look {
	l := []api.Look{off, idle, dark, on, worn, wornX, {On: true, Worn: true}, {Mounted: true, Worn: true}}
	for _, mark := range []int{1, 2} {
		for _, of := range []api.Look{off, on} {
			for sector := range 24 {
				of.Marks[sector] = mark
			}
			l = append(l, of)
		}
	}
	return l
}

// A call of a device that isn't mounted, whatever else holds, and whatever its numbers are.
func TestNotMounted(t *testing.T) {
	t.Parallel()
	for _, ahead := range []api.Look{off, idle, {On: true, Worn: true}, marked(idle, 3, 1), marked(off, 3, 2)} {
		for _, behind := range looks() {
			for kind := 1; kind <= 3; kind++ {
				for _, sector := range []int{-1, 3, 24} {
					wantMay(t, "not mounted", behindLook(ahead), step(kind, sector, 5), behind, only(api.ErrNotMounted))
				}
			}
		}
	}
}

// A call of a sector that isn't there.
func TestNoSector(t *testing.T) {
	t.Parallel()
	for _, ahead := range []api.Look{on, worn, dark, marked(on, 0, 1), marked(on, 23, 2)} {
		for _, behind := range []api.Look{off, on, worn, wornX} {
			for kind := 1; kind <= 3; kind++ {
				for _, sector := range []int{math.MinInt, -24, -1, 24, 25, 1 << 32, math.MaxInt} {
					wantMay(t, "no sector", behindLook(ahead), step(kind, sector, 5), behind, only(api.ErrArg))
				}
			}
		}
	}
}

// A Read, by the mark ahead, and by On behind. The marks behind, those of other sectors, and Worn are not asked.
func TestRead(t *testing.T) {
	t.Parallel()
	for _, sector := range []int{0, 1, 3, 22, 23} {
		for mark, m := range map[int]may{
			0: reads([][]byte{noughts()}),
			1: reads([][]byte{noughts()}, api.ErrMedia),
			2: {codes: []api.Code{api.ErrMedia}, any: true},
		} {
			for _, ahead := range []api.Look{on, worn, dark} {
				ahead = marked(ahead, sector, mark)
				for other := range 24 {
					if other != sector {
						ahead.Marks[other] = (mark + 1 + other%2) % 3
					}
				}
				for _, behind := range looks() {
					m := m
					if !behind.On {
						m.codes = append(slices.Clone(m.codes), api.ErrPower)
					}
					wantMay(t, "read, mark "+strconv.Itoa(mark), behindLook(ahead), step(1, sector, 5), behind, m)
				}
			}
		}
	}
}

// Marks that there are none of: they are neither Whole nor Gone.
func TestReadOfAnyMark(t *testing.T) {
	for _, mark := range []int{-1, 3, math.MinInt, math.MaxInt} {
		wantMay(t, "read, mark "+strconv.Itoa(mark), behindLook(marked(on, 7, mark)), step(1, 7), on, reads([][]byte{noughts()}, api.ErrMedia))
	}
}

// The sector's own mark is asked, each sector's.
func TestReadOfEachSector(t *testing.T) {
	t.Parallel()
	for sector := range 24 {
		for of := range 24 {
			m := reads([][]byte{noughts()})
			if of == sector {
				m.codes = []api.Code{api.ErrMedia}
			}
			wantMay(t, "read", behindLook(marked(on, sector, 1)), step(1, of), on, m)
		}
	}
}

// A Write and a Trim, by On and Worn behind. What was seen ahead, and the marks, are not asked.
func TestWriteAndTrim(t *testing.T) {
	t.Parallel()
	for kind := 2; kind <= 3; kind++ {
		for _, ahead := range []api.Look{on, worn, dark, marked(on, 3, 1), marked(worn, 3, 2)} {
			for _, behind := range looks() {
				for _, sector := range []int{0, 3, 23} {
					m := only(0)
					if behind.Worn {
						m.codes = append(m.codes, api.ErrWornOut)
					}
					if !behind.On {
						m.codes = append(m.codes, api.ErrPower)
					}
					wantMay(t, "write or trim", behindLook(ahead), step(kind, sector, 5), behind, m)
				}
			}
		}
	}
}

// A Mount, by Mounted and On ahead, and by On behind.
func TestMount(t *testing.T) {
	t.Parallel()
	for _, c := range []struct {
		ahead, behind api.Look
		m             may
	}{
		{on, on, only(api.ErrState)},
		{on, off, only(api.ErrState)},
		{dark, off, only(api.ErrState)},
		{dark, idle, only(api.ErrState)},
		{worn, wornX, only(api.ErrState)},
		{off, off, only(api.ErrPower)},
		{off, on, only(api.ErrPower)},
		{wornX, worn, only(api.ErrPower)},
		{idle, on, only(0)},
		{idle, idle, only(0)},
		{idle, off, only(0, api.ErrPower)},
		{idle, dark, only(0, api.ErrPower)},
		{idle, worn, only(0)},
		{idle, wornX, only(0, api.ErrPower)},
		{marked(idle, 3, 2), on, only(0)},
	} {
		wantMay(t, "mount", behindLook(c.ahead), step(4), c.behind, c.m)
		wantMay(t, "mount with numbers", behindLook(c.ahead), step(4, -9, 99), c.behind, c.m)
	}
}

// A Report, by Mounted ahead alone.
func TestReport(t *testing.T) {
	t.Parallel()
	for _, ahead := range looks() {
		m := only(api.ErrNotMounted)
		if ahead.Mounted {
			m = only(0)
		}
		for _, behind := range looks() {
			wantMay(t, "report", behindLook(ahead), step(5), behind, m)
			wantMay(t, "report with numbers", behindLook(ahead), step(5, -1, 1<<40), behind, m)
		}
	}
}

// What is done to the chip, by its numbers alone, whatever is seen ahead and behind.
func TestHarm(t *testing.T) {
	t.Parallel()
	least, most := math.MinInt, math.MaxInt
	for _, c := range []struct {
		kind  int
		as    []int // an A of these
		bs    []int // and a B of these
		codes may
	}{
		{6, []int{0, 1, 94, 95}, []int{0, 1, 2046, 2047}, only(0)},
		{6, []int{-1, 96, least, most}, []int{0, 2047, -1, 2048}, only(api.ErrArg)},
		{6, []int{0, 95, 96, -1}, []int{-1, 2048, least, most}, only(api.ErrArg)},
		{7, []int{0, 1, 10, 11}, []int{0, 1, 2048, most}, only(0)},
		{7, []int{-1, 12, least, most}, []int{0, 5, most, -1}, only(api.ErrArg)},
		{7, []int{0, 11, 12, -1}, []int{-1, -2, least}, only(api.ErrArg)},
		{8, []int{0, 1, 10, 11}, []int{0, -1, 12, least, most}, only(0)},
		{8, []int{-1, 12, least, most}, []int{0, -1, most}, only(api.ErrArg)},
		{9, []int{0, 1, 12, 96, most}, []int{0, -1, least, most}, only(0)},
		{9, []int{-1, -2, least}, []int{0, 1, most}, only(api.ErrArg)},
		{10, []int{0, -1, 1, least, most}, []int{0, -1, least, most}, only(0)},
	} {
		for _, a := range c.as {
			for _, b := range c.bs {
				for _, ahead := range []api.Look{on, off, idle, worn} {
					wantMay(t, "harm", behindLook(ahead), step(c.kind, a, b), wornX, c.codes)
				}
			}
		}
	}
}

// Kinds that there are none of.
func TestNoKind(t *testing.T) {
	t.Parallel()
	for _, kind := range []int{math.MinInt, -10, -2, -1, 0, 11, 12, 257, 1 << 32, 1<<32 + 1, math.MaxInt} {
		for _, ahead := range []api.Look{on, off, idle, worn} {
			for _, behind := range []api.Look{on, wornX} {
				wantMay(t, "no kind", behindLook(ahead), step(kind, 3, 5), behind, only(api.ErrForm))
				wantMay(t, "no kind", behindLook(ahead), step(kind, -1, 5), behind, only(api.ErrForm))
			}
		}
	}
}

// At the first entry what is ahead is On, not Mounted, not Broken, not Worn, all marks Whole.
func TestFirstEntry(t *testing.T) {
	t.Parallel()
	for _, behind := range looks() {
		mount := only(0)
		if !behind.On {
			mount = only(0, api.ErrPower)
		}
		for of, m := range map[api.Step]may{
			step(1, 0): only(api.ErrNotMounted), step(1, 24): only(api.ErrNotMounted), step(1, -1): only(api.ErrNotMounted),
			step(2, 0, 5): only(api.ErrNotMounted), step(2, 24, 5): only(api.ErrNotMounted),
			step(3, 23): only(api.ErrNotMounted), step(3, 24): only(api.ErrNotMounted),
			step(4): mount, step(5): only(api.ErrNotMounted),
			step(6, 95, 2047): only(0), step(6, 96, 0): only(api.ErrArg), step(6, 0, 2048): only(api.ErrArg),
			step(7, 11, 0): only(0), step(7, 12, 0): only(api.ErrArg), step(7, 0, -1): only(api.ErrArg),
			step(8, 11): only(0), step(8, 12): only(api.ErrArg),
			step(9, 0): only(0), step(9, -1): only(api.ErrArg),
			step(10): only(0), step(0): only(api.ErrForm), step(11): only(api.ErrForm),
		} {
			wantMay(t, "first", nil, of, behind, m)
		}
	}
	want(t, "none", nil, -1)
	want(t, "none", []api.Entry{}, -1)
}
