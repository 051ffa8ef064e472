package world_test

import (
	"bytes"
	"testing"

	"patina/api"
	"patina/dev"
	"patina/nand"
	"patina/script"
	"patina/world"
)

// P22.3: Run and View.

// anySteps are steps of all kinds: calls, harm, cuts, mounts, and what is refused.
func anySteps(from *source, many int) []api.Step {
	var l []api.Step
	for range many {
		s := anyCall(from)
		switch kind := from.below(20); {
		case kind < 3:
			s = step(6, from.below(96), from.below(2048))
		case kind < 4:
			s = anyFailure(from)
		case kind < 5:
			s = step(9, from.below(30))
		case kind < 8:
			s = step(10)
		case kind < 10:
			s = step(4)
		case kind < 11:
			s = anyWrong(from)
		}
		l = append(l, s)
	}
	return l
}

// sameEntries tells whether two lists of entries are alike.
func sameEntries(a, b []api.Entry) bool {
	if len(a) != len(b) {
		return false
	}
	for i := range a {
		same := a[i].Step == b[i].Step && a[i].Look == b[i].Look && a[i].Reply.Code == b[i].Reply.Code
		if !same || !bytes.Equal(a[i].Reply.Data, b[i].Reply.Data) {
			return false
		}
	}
	return true
}

// An entry for each step: the step, what it answered, and Look behind it.
func TestRun(t *testing.T) {
	t.Parallel()
	for start := range 8 {
		from := source(800 + start)
		l := anySteps(&from, 120)
		got := world.New().Run(l)
		if len(got) != len(l) {
			t.Fatalf("%d entries of %d steps", len(got), len(l))
		}
		w := world.New()
		for i, s := range l {
			r := w.Do(s)
			want := []api.Entry{{Step: s, Reply: r, Look: w.Look()}}
			if !sameEntries(got[i:i+1], want) {
				t.Fatalf("step %d: %+v, want %+v", i, got[i], want[0])
			}
		}
	}
}

// A list that is run at once is answered as its parts, run one behind the other, wherever it is parted.
func TestRunInParts(t *testing.T) {
	t.Parallel()
	from := source(850)
	l := anySteps(&from, 60)
	whole := world.New()
	want := whole.Run(l)
	for at := range len(l) + 1 {
		w := world.New()
		first := w.Run(l[:at])
		second := w.Run(l[at:])
		if !sameEntries(append(first, second...), want) || w.Look() != whole.Look() || !sameChip(w.Chip(), whole.Chip()) {
			t.Fatalf("parted at %d: it is answered otherwise", at)
		}
	}
	// In many parts, with nothing in between that changes anything.
	w := world.New()
	var got []api.Entry
	for len(got) < len(l) {
		part := l[len(got):min(len(got)+1+from.below(5), len(l))]
		got = append(got, w.Run(part)...)
		w.Run(nil)
		w.Look()
		w.View()
		w.Chip()
	}
	if !sameEntries(got, want) {
		t.Error("in many parts it is answered otherwise")
	}
}

// Without steps there are no entries, and nothing is done.
func TestRunOfNothing(t *testing.T) {
	w := behind([]api.Step{step(4), step(2, 3, 3)})
	was, look := w.Chip().Clone(), w.Look()
	if a, b := w.Run(nil), w.Run([]api.Step{}); len(a) != 0 || len(b) != 0 {
		t.Errorf("Run of nothing: %v, %v", a, b)
	}
	if !sameChip(w.Chip(), was) || w.Look() != look {
		t.Error("something was done")
	}
}

// A script, from its text on.
func TestRunOfAScript(t *testing.T) {
	l, err := script.Parse("mount\nwrite 3 7\nflip 1 0\nflip 1 8 # two bytes\nflip 1 16\nread 3\nwrite 3 8\nread 3\ncut 0\ntrim 3\nmount\npower\nmount\nread 3")
	if err != nil {
		t.Fatal(err)
	}
	entries := world.New().Run(l)
	codes := []api.Code{0, 0, 0, 0, 0, api.ErrMedia, 0, 0, 0, api.ErrPower, api.ErrPower, 0, 0, 0}
	for i, e := range entries {
		want := api.Look{On: i < 9 || i > 10, Mounted: i < 9 || i > 11}
		if i == 4 || i == 5 {
			want.Marks[3] = api.Weak
		}
		if e.Step != l[i] || e.Reply.Code != codes[i] || e.Look != want {
			t.Errorf("step %d: %+v", i, e)
		}
	}
	if len(entries) != 14 || !bytes.Equal(entries[7].Reply.Data, script.Fill(8)) || !bytes.Equal(entries[13].Reply.Data, script.Fill(8)) {
		t.Error("the sector reads otherwise")
	}
}

// View is the device's Report.
func TestView(t *testing.T) {
	t.Parallel()
	from := source(870)
	chip := nand.New()
	device, err := dev.New(chip)
	if err != nil {
		t.Fatal(err)
	}
	p := &pair{T: t, w: world.New(), chip: chip, dev: device, told: map[int]map[api.Code]int{}}
	refused := 0
	for _, s := range anySteps(&from, 200) {
		// The pair holds View against Report behind each step.
		p.do(s)
		if v, err := p.w.View(); err != nil {
			refused++
			if v != (api.View{}) || err != api.ErrNotMounted {
				t.Fatalf("View(): %+v, %v", v, err)
			}
		}
	}
	if refused == 0 || refused == 200 {
		t.Errorf("it was refused %d times", refused)
	}
}

// Looking changes nothing, neither of the chip nor of what is seen.
func TestLookingChangesNothing(t *testing.T) {
	for _, steps := range stands() {
		w := behind(steps)
		was, look := w.Chip().Clone(), w.Look()
		view, err := w.View()
		for range 5 {
			v, wrong := w.View()
			if w.Look() != look || v != view || wrong != err {
				t.Fatal("it is seen otherwise")
			}
		}
		if !sameChip(w.Chip(), was) {
			t.Error("the chip was changed")
		}
	}
}
