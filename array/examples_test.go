package array_test

import (
	"bytes"
	"slices"
	"testing"

	"patina/api"
	"patina/array"
)

// The examples of the chapter's table, in one array from line to line.

func TestExamples(t *testing.T) {
	a := array.New()
	if b, err := a.Read(0); err != nil || !bytes.Equal(b, make([]byte, 160)) {
		t.Errorf("Read(0): %x, %v", b, err)
	}
	for _, sector := range []int{24, -1} {
		if b, err := a.Read(sector); err != api.ErrArg || len(b) != 0 {
			t.Errorf("Read(%d): %x, %v", sector, b, err)
		}
	}

	sevens := bytes.Repeat([]byte{7}, 160)
	if err := a.Write(3, sevens); err != nil {
		t.Errorf("Write(3, 160 bytes): %v", err)
	}
	if err := a.Write(3, make([]byte, 159)); err != api.ErrArg {
		t.Errorf("Write(3, 159 bytes): %v", err)
	}
	if err := a.Write(24, make([]byte, 160)); err != api.ErrArg {
		t.Errorf("Write(24, 160 bytes): %v", err)
	}
	if b, err := a.Read(3); err != nil || !bytes.Equal(b, sevens) {
		t.Errorf("Read(3): %x, %v", b, err)
	}

	c := a.Clone()
	if err := a.Trim(3); err != nil {
		t.Errorf("Trim(3): %v", err)
	}
	if one, other := a.Differ(c), c.Differ(a); !slices.Equal(one, []int{3}) || !slices.Equal(other, []int{3}) {
		t.Errorf("Differ of both: %v, %v", one, other)
	}
	if of := c.Differ(nil); !slices.Equal(of, []int{3}) {
		t.Errorf("Differ(nil) of the clone: %v", of)
	}
	if of := a.Differ(nil); len(of) != 0 {
		t.Errorf("Differ(nil) of the first: %v", of)
	}
}
