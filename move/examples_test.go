package move_test

import (
	"bytes"
	"testing"

	"patina/api"
	"patina/nand"
)

// The examples of the chapter's table, one behind the other.
func TestExamples(t *testing.T) {
	core := begun(t, nand.New(), api.Checkpoint{}, nil)
	if err := core.Clean(); err != nil {
		t.Fatalf("Clean(): %v", err)
	}
	want := api.View{Next: 2}
	want.States[0] = api.Open
	want.Live = nowhere()
	want.Live[24] = 0
	want.Reads[0] = 1
	if v := core.View(); v != want {
		t.Errorf("View(): %+v, want %+v", v, want)
	}
	b := bytes.Repeat([]byte{7}, 160)
	if err := core.Put(3, b); err != nil {
		t.Errorf("Put(3): %v", err)
	}
	if v := core.View(); v.Live[3] != 1 || v.Next != 3 {
		t.Errorf("View(): %+v", v)
	}
	if got, err := core.Get(3); err != nil || !bytes.Equal(got, b) {
		t.Errorf("Get(3): %v, %v", got, err)
	}
	if got, err := core.Get(4); err != nil || !bytes.Equal(got, make([]byte, 160)) {
		t.Errorf("Get(4): %v, %v", got, err)
	}
	if got, err := core.Get(24); got != nil || err != api.ErrArg {
		t.Errorf("Get(24): %v, %v", got, err)
	}
	if err := core.Vacate(0, false); err != nil {
		t.Errorf("Vacate(0, false): %v", err)
	}
	if v := core.View(); v.States != [12]int{api.Free, api.Open} || v.Live[24] != 8 || v.Live[3] != 9 || v.Moves != 2 {
		t.Errorf("View(): %+v", v)
	}
	if err := core.Trim(3); err != nil {
		t.Errorf("Trim(3): %v", err)
	}
	if v := core.View(); v.Live[24] != 10 || v.Live[3] != -1 {
		t.Errorf("View(): %+v", v)
	}
	if got, err := core.Get(3); err != nil || !bytes.Equal(got, make([]byte, 160)) {
		t.Errorf("Get(3): %v, %v", got, err)
	}
	if err := core.Trim(3); err != nil {
		t.Errorf("Trim(3) again: %v", err)
	}
	if err := core.Vacate(0, false); err != api.ErrState {
		t.Errorf("Vacate(0, false): %v", err)
	}
	if err := core.Vacate(12, false); err != api.ErrArg {
		t.Errorf("Vacate(12, false): %v", err)
	}
}

// nowhere is where nothing lies.
func nowhere() (live [25]int) {
	for of := range live {
		live[of] = -1
	}
	return live
}
