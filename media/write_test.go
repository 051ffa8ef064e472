package media

import (
	"bytes"
	"testing"

	"patina/api"
	"patina/frame"
	"patina/nand"
	"patina/tag"
)

// A page that is read back as another one than was programmed: nothing can be done to a chip between Program's last write and its reading back, so the chunks are turned here ahead of the writes.

// meant is what the page is to be.
func meant() (int, api.Tag, []byte) {
	return 21, api.Tag{Place: 21, Of: 7, Seq: 300, Copy: 2}, bytes.Repeat([]byte{0x1b, 0xe4, 0x07}, 58)
}

// chunksOf are a page's chunks as they are to be written.
func chunksOf(t *testing.T, g api.Tag, data []byte) [][]byte {
	t.Helper()
	body, err := tag.Encode(g)
	if err != nil {
		t.Fatal(err)
	}
	chunks, err := frame.New().Lay(data, body)
	if err != nil {
		t.Fatal(err)
	}
	return chunks
}

// wantWrite writes chunks to a new chip, and wants an answer, all the chunks programmed, and one read.
func wantWrite(t *testing.T, what string, chunks [][]byte, want error) {
	t.Helper()
	at, g, data := meant()
	c := nand.New()
	m := New(c)
	if err := m.write(at, chunks, g, data); err != want || m.Reads() != 1 || c.Steps() != len(chunks) {
		t.Errorf("%s: %v, %d reads, %d steps, want %v, 1, %d", what, err, m.Reads(), c.Steps(), want, len(chunks))
	}
	for i, chunk := range chunks {
		if truth, programmed, err := c.Truth(at, i); !bytes.Equal(truth, chunk) || !programmed || err != nil {
			t.Errorf("%s: Truth(%d, %d): % x, %t, %v", what, at, i, truth, programmed, err)
		}
	}
}

func TestReadBackAsItWasMeant(t *testing.T) {
	_, g, data := meant()
	wantWrite(t, "as it was meant", chunksOf(t, g, data), nil)
}

func TestReadBackWithAnotherTag(t *testing.T) {
	at, _, data := meant()
	others := map[string]api.Tag{
		"Place": {Place: at - 1, Of: 7, Seq: 300, Copy: 2},
		"Of":    {Place: at, Of: 8, Seq: 300, Copy: 2},
		"Seq":   {Place: at, Of: 7, Seq: 301, Copy: 2},
		"Copy":  {Place: at, Of: 7, Seq: 300, Copy: 3},
		"Lost":  {Place: at, Of: 7, Seq: 300, Copy: 2, Lost: true},
	}
	for what, other := range others {
		wantWrite(t, "another "+what, chunksOf(t, other, data), api.ErrFail)
	}
}

func TestReadBackWithOtherData(t *testing.T) {
	_, g, data := meant()
	for i := range data {
		other := bytes.Clone(data)
		other[i] ^= 1
		wantWrite(t, "other data", chunksOf(t, g, other), api.ErrFail)
	}
}

// What is put right when it is read back is as it was meant; what isn't has failed.
func TestReadBackOfDecay(t *testing.T) {
	_, g, data := meant()
	for chunk := range api.Chunks {
		for n := range 5 {
			chunks := chunksOf(t, g, data)
			for i := range n {
				chunks[chunk][5+13*i] ^= 0x11
			}
			want := error(nil)
			if n > api.Correct {
				want = api.ErrFail
			}
			wantWrite(t, "decay", chunks, want)
		}
	}
}

// A page without a tag fails, also where nothing is meant: the tag that is nothing is none.
func TestReadBackOfNoTag(t *testing.T) {
	_, g, data := meant()
	wantWrite(t, "no tag", chunksOf(t, g, data)[:3], api.ErrFail)
	wantWrite(t, "nothing", nil, api.ErrFail)
	m := New(nand.New())
	if err := m.write(0, nil, api.Tag{}, nil); err != api.ErrFail {
		t.Errorf("nothing, and nothing meant: %v", err)
	}
}

// Without power at the reading back alone that is told, and no read is counted.
func TestReadBackWithoutPower(t *testing.T) {
	at, g, data := meant()
	c := nand.New()
	m := New(c)
	if err := m.Program(at, g, data); err != nil {
		t.Fatal(err)
	}
	if err := c.Cut(0); err != nil {
		t.Fatal(err)
	}
	if err := m.write(at, nil, g, data); err != nil || m.Reads() != 2 {
		t.Errorf("at a budget's end: %v, %d reads", err, m.Reads())
	}
	if err := c.Erase(0); err != api.ErrPower {
		t.Fatal(err)
	}
	for _, other := range [][]byte{data, nil} {
		if err := m.write(at, nil, g, other); err != api.ErrPower || m.Reads() != 2 {
			t.Errorf("without power: %v, %d reads", err, m.Reads())
		}
	}
}
