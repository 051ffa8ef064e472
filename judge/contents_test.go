package judge_test

import (
	"bytes"
	"slices"
	"testing"

	"patina/api"
)

// P23.1: the contents of the sectors, and what each reply changes of them.

// read is a Read that answered a text.
func read(sector int, text []byte) api.Entry { return entry(step(1, sector), data(text), on) }

// write is a Write that was done.
func write(sector, v int) api.Entry { return entry(step(2, sector, v), code(0), on) }

// trim is a Trim that was done.
func trim(sector int) api.Entry { return entry(step(3, sector), code(0), on) }

// cut is a call that the power cut, and what it takes until the device is mounted again.
func cut(of api.Step) []api.Entry {
	return []api.Entry{
		entry(of, code(api.ErrPower), off),
		entry(step(10), code(0), idle),
		entry(step(4), code(0), on),
	}
}

// list is a mount, and these behind it.
func list(parts ...any) []api.Entry {
	l := []api.Entry{entry(step(4), code(0), on)}
	for _, p := range parts {
		switch p := p.(type) {
		case api.Entry:
			l = append(l, p)
		case []api.Entry:
			l = append(l, p...)
		}
	}
	return l
}

// mark is an entry behind which a sector has a mark; it changes no contents.
func mark(sector, mark int) api.Entry {
	return entry(step(5), code(0), marked(on, sector, mark))
}

// tried are the texts that are held against the contents.
func tried() [][]byte {
	l := [][]byte{noughts(), bytes.Repeat([]byte{255}, 160)}
	for v := range 9 {
		l = append(l, filled(v))
	}
	for _, at := range []int{0, 80, 159} {
		for _, b := range [][]byte{noughts(), filled(5)} {
			b[at] ^= 128
			l = append(l, b)
		}
	}
	return l
}

// wantContents holds the contents of a sector behind a list: each of the texts may be read, and no other.
func wantContents(t *testing.T, name string, l []api.Entry, sector int, texts ...[]byte) {
	t.Helper()
	want(t, name, l, -1)
	for _, text := range append(tried(), texts...) {
		number := len(l)
		if slices.ContainsFunc(texts, func(b []byte) bool { return bytes.Equal(b, text) }) {
			number = -1
		}
		want(t, name, append(slices.Clone(l), read(sector, text)), number)
	}
	for _, length := range []int{0, 1, 159, 161} {
		text := append(bytes.Clone(texts[0]), 0)[:length]
		want(t, name, append(slices.Clone(l), read(sector, text)), len(l))
	}
	for other := range 24 {
		if other != sector && !slices.ContainsFunc(l, func(e api.Entry) bool { return e.Step.Kind <= 3 && e.Step.A == other }) {
			want(t, name+": another sector", append(slices.Clone(l), read(other, noughts())), -1)
			want(t, name+": another sector", append(slices.Clone(l), read(other, filled(5))), len(l))
		}
	}
}

func TestContents(t *testing.T) {
	t.Parallel()
	for sector := range 24 {
		cutWrite := func(v int) []api.Entry { return cut(step(2, sector, v)) }
		cutTrim := cut(step(3, sector))
		for _, c := range []struct {
			name  string
			l     []api.Entry
			texts [][]byte
		}{
			{"at first", list(), [][]byte{noughts()}},
			{"behind a write", list(write(sector, 5)), [][]byte{filled(5)}},
			{"behind two writes", list(write(sector, 5), write(sector, 6)), [][]byte{filled(6)}},
			{"behind a trim", list(write(sector, 5), trim(sector)), [][]byte{noughts()}},
			{"behind a trim at first", list(trim(sector)), [][]byte{noughts()}},
			{"behind a write that was cut", list(cutWrite(5)), [][]byte{noughts(), filled(5)}},
			{"behind three", list(cutWrite(5), cutWrite(6), cutWrite(7)), [][]byte{noughts(), filled(5), filled(6), filled(7)}},
			{"behind two of one text", list(cutWrite(5), cutWrite(5)), [][]byte{noughts(), filled(5)}},
			{"behind a write, and one that was cut", list(write(sector, 5), cutWrite(6)), [][]byte{filled(5), filled(6)}},
			{"behind a trim that was cut", list(write(sector, 5), cutTrim), [][]byte{filled(5), noughts()}},
			{"behind a trim that was cut at first", list(cutTrim), [][]byte{noughts()}},
			{"behind one, and a write that was cut", list(write(sector, 5), cutTrim, cutWrite(6)), [][]byte{filled(5), noughts(), filled(6)}},
			{"behind cuts, a write", list(cutWrite(5), cutWrite(6), write(sector, 7)), [][]byte{filled(7)}},
			{"behind cuts, a trim", list(cutWrite(5), cutWrite(6), trim(sector)), [][]byte{noughts()}},
			{"behind cuts, a read of the elder", list(cutWrite(5), cutWrite(6), read(sector, noughts())), [][]byte{noughts()}},
			{"behind cuts, a read of the one between", list(cutWrite(5), cutWrite(6), read(sector, filled(5))), [][]byte{filled(5)}},
			{"behind cuts, a read of the younger", list(cutWrite(5), cutWrite(6), read(sector, filled(6))), [][]byte{filled(6)}},
			{"behind that a cut", list(cutWrite(5), cutWrite(6), read(sector, filled(5)), cutWrite(7)), [][]byte{filled(5), filled(7)}},
			{"behind a read that was cut", list(cutWrite(5), cut(step(1, sector))), [][]byte{noughts(), filled(5)}},
		} {
			wantContents(t, c.name, c.l, sector, c.texts...)
		}
	}
}

// What changes nothing of the contents, between a write that was cut and the read that tells.
func TestContentsThatStay(t *testing.T) {
	t.Parallel()
	const sector = 3
	media := func(mark int) []api.Entry {
		return []api.Entry{
			entry(step(5), code(0), marked(on, sector, mark)),
			entry(step(1, sector), code(api.ErrMedia), marked(on, sector, mark)),
			entry(step(5), code(0), on),
		}
	}
	gone := func(text []byte) []api.Entry {
		return []api.Entry{mark(sector, 2), entry(step(1, sector), data(text), on)}
	}
	for name, between := range map[string][]api.Entry{
		"nothing":                          nil,
		"a read of Gone, of other bytes":   gone(filled(8)),
		"a read of Gone, of one text":      gone(noughts()),
		"a read of Gone, of the other":     gone(filled(5)),
		"ErrMedia of a sector that's Weak": media(1),
		"ErrMedia of a sector that's Gone": media(2),
		"a write that is refused by ErrWornOut": {
			entry(step(2, sector, 8), code(api.ErrWornOut), worn),
			entry(step(3, sector), code(api.ErrWornOut), worn),
		},
		"calls that the device refuses, as it isn't mounted": {
			entry(step(10), code(0), idle),
			entry(step(2, sector, 8), code(api.ErrNotMounted), idle),
			entry(step(3, sector), code(api.ErrNotMounted), idle),
			entry(step(1, sector), code(api.ErrNotMounted), on),
		},
		"calls of no sector": {
			entry(step(2, -1, 8), code(api.ErrArg), on),
			entry(step(2, 24, 8), code(api.ErrArg), on),
			entry(step(3, sector+24), code(api.ErrArg), on),
			entry(step(1, sector-24), code(api.ErrArg), on),
		},
		"calls of others": {
			write(2, 8), write(4, 8), trim(2), read(4, filled(8)), write(0, 8), write(23, 8),
		},
		"a mount that is refused": {
			entry(step(4), code(api.ErrState), on),
		},
		"what is done to the chip": {
			entry(step(6, sector, 5), code(0), on), entry(step(7, sector, 5), code(0), on), entry(step(8, sector), code(0), on),
			entry(step(9, sector), code(0), on), entry(step(10), code(0), on), entry(step(11, sector, 8), code(api.ErrForm), on),
			entry(step(0, sector, 8), code(api.ErrForm), on), entry(step(6, 96, 0), code(api.ErrArg), on),
		},
		"marks that come and go": {
			mark(sector, 1), mark(sector, 2), mark(sector, 0),
		},
	} {
		// A look behind each read must be Whole where the next one is to tell.
		end := entry(step(5), code(0), on)
		wantContents(t, name, list(between, end), sector, noughts())
		wantContents(t, name, list(write(sector, 6), between, end), sector, filled(6))
		wantContents(t, name, list(cut(step(2, sector, 5)), between, end), sector, noughts(), filled(5))
		wantContents(t, name, list(write(sector, 5), cut(step(3, sector)), between, end), sector, noughts(), filled(5))
	}
}

// A read of a sector that is Weak or has some mark that there is none of is held against the contents, and settles them; of one that is Gone neither.
func TestReadsByMark(t *testing.T) {
	t.Parallel()
	for _, m := range []int{0, 1, 2, 3, -1} {
		l := list(cut(step(2, 3, 5)), mark(3, m))
		settled := []api.Entry{read(3, noughts())}
		other := append(slices.Clone(l), read(3, filled(8)))
		if m == 2 {
			wantContents(t, "Gone", append(slices.Clone(l), settled...), 3, noughts(), filled(5))
			wantContents(t, "Gone", other, 3, noughts(), filled(5))
			continue
		}
		wantContents(t, "not Gone", append(slices.Clone(l), settled...), 3, noughts())
		want(t, "not Gone", other, len(l))
	}
}

// All numbers that a Write may have: its text is Fill of it, and no other.
func TestContentsOfAllNumbers(t *testing.T) {
	t.Parallel()
	for _, v := range []int{0, 1, -1, 127, 128, 255, 256, 257, -256, -257, 1<<31 - 1, -1 << 31, 1 << 32, 1<<63 - 1, -1 << 63} {
		l := list(write(3, v))
		want(t, "its own", append(slices.Clone(l), read(3, filled(v))), -1)
		want(t, "the same modulo 256", append(slices.Clone(l), read(3, filled(int(byte(v))))), -1)
		want(t, "the next one", append(slices.Clone(l), read(3, filled(v+1))), len(l))
		want(t, "noughts", append(slices.Clone(l), read(3, noughts())), len(l))
	}
}

// As many texts as there may be: 256 of Fill, and the noughts; each of them may be read, and is alone then.
func TestContentsOfAllTexts(t *testing.T) {
	t.Parallel()
	l := list()
	for v := range 256 {
		l = append(l, cut(step(2, 3, v))...)
	}
	for v := range 257 {
		text := noughts()
		if v < 256 {
			text = filled(v)
		}
		told := append(slices.Clone(l), read(3, text))
		want(t, "one of them", told, -1)
		want(t, "it again", append(slices.Clone(told), read(3, text)), -1)
		want(t, "the next one", append(slices.Clone(told), read(3, filled(v+1))), len(told))
	}
}

// Each single byte of a text counts.
func TestEachByte(t *testing.T) {
	t.Parallel()
	l := list(write(3, 5))
	for at := range 160 {
		for bit := range 8 {
			text := filled(5)
			text[at] ^= 1 << bit
			want(t, "a bit of it", append(slices.Clone(l), read(3, text)), len(l))
		}
	}
}
