package judge_test

import (
	"fmt"
	"testing"

	"patina/api"
	"patina/judge"
)

// The examples of the chapter's table.
func TestExamples(t *testing.T) {
	one := noughts()
	one[77] = 1
	mounted := entry(step(4), code(0), on)
	for _, c := range []struct {
		name string
		l    []api.Entry
		want int
	}{
		{"none", nil, -1},
		{"160 noughts", []api.Entry{mounted, entry(step(1, 3), data(noughts()), on)}, -1},
		{"160 bytes of which one is 1", []api.Entry{mounted, entry(step(1, 3), data(one), on)}, 1},
		{"159 noughts", []api.Entry{mounted, entry(step(1, 3), data(noughts()[:159]), on)}, 1},
		{"ErrMedia", []api.Entry{mounted, entry(step(1, 3), code(api.ErrMedia), on)}, 1},
		{"ErrPower", []api.Entry{mounted, entry(step(1, 3), code(api.ErrPower), on)}, 1},
		{"ErrMedia of Weak", []api.Entry{entry(step(4), code(0), marked(on, 3, 1)), entry(step(1, 3), code(api.ErrMedia), on)}, -1},
	} {
		if got := judge.Judge(c.l); got != c.want {
			t.Errorf("%s: %d, want %d", c.name, got, c.want)
		}
	}
	lines := fmt.Sprintf("ok\nok\nok %x\n! 1\nheld\n", filled(2))
	if got, err := judge.Play("mount\nwrite 1 2\nread 1\nread 24"); got != lines || err != nil {
		t.Errorf("Play: %q, %v", got, err)
	}
}
