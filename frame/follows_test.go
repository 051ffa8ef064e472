package frame_test

import (
	"bytes"
	"testing"

	"patina/api"
	"patina/frame"
)

// P6.6: what follows.

// wantPage holds what is read of a page against its damage in each chunk.
func wantPage(t *testing.T, f *frame.Frame, page, data, body []byte, damage [4]int) {
	t.Helper()
	most := 0
	for _, d := range damage[:3] {
		if d > most {
			most = d
		}
	}
	if most <= 2 {
		wantRead(t, "Data", f.Data, page, data, most)
	} else {
		wantError(t, "Data", f.Data, page, api.ErrDecode)
	}
	if damage[3] <= 2 {
		wantRead(t, "Body", f.Body, page, body, damage[3])
	} else {
		wantError(t, "Body", f.Body, page, api.ErrDecode)
	}
}

// What Lay laid, with 0 to 4 bytes turned in each of its chunks, all ways to spread them.
func TestWhatWasLaidIsReadBack(t *testing.T) {
	f := frame.New()
	s := source(20)
	for n := range 625 {
		damage := [4]int{n % 5, n / 5 % 5, n / 25 % 5, n / 125}
		data, body := s.some()
		page := bytes.Join(lay(t, f, data, body), nil)
		for chunk, d := range damage {
			s.harm(page, chunk, d)
		}
		wantPage(t, f, page, data, body, damage)
	}
}

// Data and bodies of all kinds, whole and with as much turned in every chunk as is borne.
func TestAllKindsOfPagesAreReadBack(t *testing.T) {
	f := frame.New()
	s := source(21)
	data, bodies := pages()
	for i := range data {
		for k := range bodies {
			for d := range 3 {
				page := bytes.Join(lay(t, f, data[i], bodies[k]), nil)
				for chunk := range 4 {
					s.harm(page, chunk, d)
				}
				wantPage(t, f, page, data[i], bodies[k], [4]int{d, d, d, d})
			}
		}
	}
}

// Every byte of a page, turned alone, is put right, and counted where it lies.
func TestEachByteTurnedAlone(t *testing.T) {
	f := frame.New()
	s := source(22)
	data, body := s.some()
	whole := bytes.Join(lay(t, f, data, body), nil)
	for i := range whole {
		page := bytes.Clone(whole)
		page[i] ^= byte(1 + s.next(255))
		var damage [4]int
		damage[i/wordSize] = 1
		wantPage(t, f, page, data, body, damage)
	}
}

// Where more than is borne is turned in one chunk alone, the other call answers as it did.
func TestTooMuchDamageInOneChunk(t *testing.T) {
	f := frame.New()
	s := source(23)
	data, bodies := pages()
	for i := range data {
		for chunk := range 4 {
			for d := 3; d <= 4; d++ {
				page := bytes.Join(lay(t, f, data[i], bodies[i]), nil)
				s.harm(page, chunk, d)
				var damage [4]int
				damage[chunk] = d
				wantPage(t, f, page, data[i], bodies[i], damage)
			}
		}
	}
}

// wantNoBody holds that of a page with such a tag's chunk no body is read.
func wantNoBody(t *testing.T, f *frame.Frame, word []byte) {
	t.Helper()
	page := append(make([]byte, 192), word...)
	if body, n, err := f.Body(page); body != nil || n != 0 || err != api.ErrDecode && err != api.ErrMark {
		t.Fatalf("Body with the chunk % x: % x, %d, %v", word, body, n, err)
	}
}

// What was erased, with some bytes of the mark, or of the nearest tag there is, at their places: those that lie nearest to a tag's codeword.
func TestNoBodyOfWhatWasErasedNearATag(t *testing.T) {
	f := frame.New()
	s := source(24)
	tags := [][]byte{lay(t, f, ones(dataSize), ones(bodySize))[tagChunk]}
	for range 3 {
		data, body := s.some()
		tags = append(tags, lay(t, f, data, body)[tagChunk])
	}
	for _, tag := range tags {
		for set := range 1 << 14 {
			word := ones(wordSize)
			n := 0
			for i := range 14 {
				if set>>i&1 == 1 {
					word[bodySize+i] = tag[bodySize+i]
					n++
				}
			}
			if n <= 4 {
				wantNoBody(t, f, word)
			}
		}
	}
}

func TestNoBodyOfWhatWasErased(t *testing.T) {
	f := frame.New()
	s := source(25)
	wantNoBody(t, f, ones(wordSize))
	for n := range 5 {
		for range 2000 {
			word := ones(wordSize)
			for _, i := range s.places(n, wordSize) {
				word[i] = byte(s.next(256))
			}
			wantNoBody(t, f, word)
		}
	}
	for i := range wordSize {
		for v := range 256 {
			word := ones(wordSize)
			word[i] = byte(v)
			wantNoBody(t, f, word)
		}
	}
}
