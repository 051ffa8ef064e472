package world_test

import (
	"bytes"
	"testing"

	"patina/api"
	"patina/script"
	"patina/world"
)

// The examples of the chapter's table: its lines are one world's, one behind the other.
func TestExamples(t *testing.T) {
	w := world.New()
	for i, c := range []struct {
		line string
		code api.Code
		data []byte
	}{
		{"read 0", api.ErrNotMounted, nil},
		{"mount", 0, nil},
		{"mount", api.ErrState, nil},
		{"read 0", 0, make([]byte, 160)},
		{"write 0 5", 0, nil},
		{"read 0", 0, script.Fill(5)},
		{"cut 2", 0, nil},
		{"write 0 6", api.ErrPower, nil},
		{"read 0", api.ErrNotMounted, nil},
		{"mount", api.ErrPower, nil},
		{"power", 0, nil},
		{"mount", 0, nil},
		{"read 0", 0, script.Fill(5)},
		{"flip 96 0", api.ErrArg, nil},
	} {
		steps, err := script.Parse(c.line)
		if err != nil || len(steps) != 1 {
			t.Fatal(c.line, steps, err)
		}
		if r := w.Do(steps[0]); r.Code != c.code || !bytes.Equal(r.Data, c.data) || (r.Data == nil) != (c.data == nil) {
			t.Errorf("step %d, %s: %v", i, c.line, r)
		}
	}
	if r := w.Do(api.Step{Kind: 11}); r.Code != api.ErrForm || r.Data != nil {
		t.Errorf("{11 0 0}: %v", r)
	}
}
