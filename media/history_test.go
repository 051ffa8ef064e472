package media_test

import (
	"bytes"
	"testing"

	"patina/api"
	"patina/media"
	"patina/nand"
)

// teller does by a chip's own calls what the chapter says of a media.
type teller struct {
	chip  *nand.Chip
	reads int
}

func (l *teller) read(at int) (api.Page, error) {
	raw, err := l.chip.Read(at)
	if err != nil {
		return api.Page{}, err
	}
	l.reads++
	return readAs(at, raw), nil
}

func (l *teller) program(at int, g api.Tag, data []byte) error {
	if at < 0 || at > 95 || !mayBe(g) || g.Place != at || len(data) != dataSize {
		return api.ErrArg
	}
	if err := writeAll(l.chip, at, laid(data, g)); err != nil {
		return err
	}
	page, err := l.read(at)
	switch {
	case err != nil:
		return err
	case !page.Tagged, page.Tag != g, !page.Sound, !bytes.Equal(page.Data, data):
		return api.ErrFail
	}
	return nil
}

// near is a number of 0 to n - 1, now and then one outside.
func (s *source) near(n int) int {
	if s.next(25) == 0 {
		far := outside(n)
		return far[s.next(len(far))]
	}
	return s.next(n)
}

// page is near one of a few pages, so that much happens to the same ones.
func (s *source) page() int {
	if s.next(4) > 0 {
		return []int{0, 1, 7, 8, 95}[s.next(5)]
	}
	return s.near(all)
}

// call asks both one of the media's calls, and wants the same answers.
func (s *source) call(t *testing.T, m *media.Media, l *teller) {
	t.Helper()
	at := s.page()
	switch s.next(8) {
	case 0:
		block := s.near(blocks)
		wantErr(t, "Erase", m.Erase(block), l.chip.Erase(block))
	case 1, 2, 3:
		g, data := s.tag(max(0, min(95, at))), s.bytes(s.size())
		if s.next(10) == 0 {
			g = s.anyTag(append(outside(all), 1, 5, at))
		}
		wantErr(t, "Program", m.Program(at, g, data), l.program(at, g, data))
	default:
		got, err := m.Read(at)
		want, wanted := l.read(at)
		if !samePage(got, want) || err != wanted {
			t.Errorf("Read(%d): %+v, %v, want %+v, %v", at, got, err, want, wanted)
		}
	}
	wantReads(t, m, l.reads)
}

// size is that of data, now and then another one.
func (s *source) size() int {
	if s.next(25) == 0 {
		return s.next(300)
	}
	return dataSize
}

// others does the same to both chips, behind the media's back.
func (s *source) others(c, d *nand.Chip) {
	at, block := s.page(), s.near(blocks)
	chunk, bit, word := s.near(chunks), s.near(pageSize*8), tagWord(bodyOf(s.tag(s.next(all))))
	n := s.near(20)
	kind := s.next(9)
	for _, chip := range []*nand.Chip{c, d} {
		switch kind {
		case 0:
			chip.Write(at, chunk, word)
		case 1:
			chip.FailProgram(block, n)
		case 2:
			chip.Cut(n)
		case 3, 4:
			chip.Power()
		case 5:
			chip.Read(at)
		case 6:
			if n == 0 {
				chip.FailErase(block)
			}
		default:
			chip.Flip(at, bit)
		}
	}
}

// Media whose chips all kinds of things happen to answer as the chapter tells, and leave them as it tells.
func TestHistories(t *testing.T) {
	for seed := range 60 {
		s := source(1000 + seed)
		c, d := nand.New(), nand.New()
		m, l := media.New(c), &teller{chip: d}
		for range 20 {
			for range 20 {
				if s.next(3) == 0 {
					s.others(c, d)
				}
				s.call(t, m, l)
			}
			wantAlike(t, "behind a history", c, d)
			if t.Failed() {
				t.Fatalf("the history of the seed %d", seed)
			}
		}
	}
}
