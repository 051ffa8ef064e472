package mount_test

import (
	"bytes"
	"testing"

	"patina/api"
	"patina/mount"
	"patina/nand"
)

// The examples of the chapter's table, one behind the other on one chip.
func TestExamples(t *testing.T) {
	c := nand.New()
	if l, err := mount.Scan(c); len(l) != 0 || err != nil {
		t.Errorf("Scan: %v, %v", l, err)
	}
	m, err := mount.Mount(c)
	if m == nil || err != nil {
		t.Fatalf("Mount: %v, %v", m, err)
	}
	if v := m.View(); v.States != [12]int{api.Open} || v.Live[24] != 0 {
		t.Errorf("View(): %+v", v)
	}
	sevens := bytes.Repeat([]byte{7}, 160)
	if err := m.Put(3, sevens); err != nil {
		t.Fatalf("Put(3): %v", err)
	}
	if m, err = mount.Mount(c); m == nil || err != nil {
		t.Fatalf("Mount: %v, %v", m, err)
	}
	if got, err := m.Get(3); err != nil || !bytes.Equal(got, sevens) {
		t.Errorf("Get(3): %v, %v", got, err)
	}
	if v := m.View(); v.States != [12]int{api.Full} || v.Live[3] != 1 {
		t.Errorf("View(): %+v", v)
	}
}

// wantPut puts a sector of a new chip, cut behind so many steps, and mounts it again.
func wantPut(t *testing.T, budget int, answer error, want []byte) {
	t.Helper()
	c := nand.New()
	m, err := mount.Mount(c)
	if err != nil {
		t.Fatal(err)
	}
	c.Cut(budget)
	if err := m.Put(3, bytes.Repeat([]byte{9}, 160)); err != answer {
		t.Errorf("Put(3) behind %d steps: %v", budget, err)
	}
	if budget < 4 {
		if m, err := mount.Mount(c); m != nil || err != api.ErrPower {
			t.Errorf("Mount of a chip whose power is off: %v, %v", m, err)
		}
	}
	c.Power()
	if m, err = mount.Mount(c); err != nil {
		t.Fatal(err)
	}
	if got, err := m.Get(3); err != nil || !bytes.Equal(got, want) {
		t.Errorf("Get(3) behind %d steps: %v, %v", budget, got, err)
	}
}

func TestExamplesOfCuts(t *testing.T) {
	for budget := range 4 {
		wantPut(t, budget, api.ErrPower, make([]byte, 160))
	}
	wantPut(t, 4, nil, bytes.Repeat([]byte{9}, 160))
}
