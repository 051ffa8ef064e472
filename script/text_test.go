package script_test

import (
	"errors"
	"math"
	"strings"
	"testing"

	"patina/api"
	"patina/script"
)

// P21.3.

func TestTextOfEachKind(t *testing.T) {
	for _, step := range every() {
		wantText(t, []api.Step{step}, written([]api.Step{step}))
	}
}

// The lines themselves, written out.
func TestTextOfLines(t *testing.T) {
	wantText(t, []api.Step{
		{Kind: api.StepRead, A: 3}, {Kind: api.StepWrite, A: 23, B: -7}, {Kind: api.StepTrim}, {Kind: api.StepMount}, {Kind: api.StepReport},
		{Kind: api.StepFlip, A: 95, B: 2047}, {Kind: api.StepFailProgram, A: 11, B: 4}, {Kind: api.StepFailErase, A: 10}, {Kind: api.StepCut, A: 100}, {Kind: api.StepPower},
	}, "read 3\nwrite 23 -7\ntrim 0\nmount\nreport\nflip 95 2047\nfailprogram 11 4\nfailerase 10\ncut 100\npower\n")
	wantText(t, []api.Step{{Kind: 2, A: math.MinInt, B: math.MaxInt}, {Kind: 6}}, "write -9223372036854775808 9223372036854775807\nflip 0 0\n")
}

func TestTextOfNoSteps(t *testing.T) {
	wantText(t, nil, "")
	wantText(t, []api.Step{}, "")
	wantText(t, make([]api.Step, 0, 10), "")
	wantText(t, every()[:0], "")
}

// A text of any length is told, also one that can't be read.
func TestTextOfManySteps(t *testing.T) {
	for _, count := range []int{1, 2, 10922, 10923, 13107, 13108, 100000} {
		steps := make([]api.Step, count)
		for i := range steps {
			steps[i] = api.Step{Kind: 3, A: -1}
		}
		wantText(t, steps, strings.Repeat("trim -1\n", count))
	}
	// Of 65536 bytes, and of one more.
	steps := make([]api.Step, 8192)
	for i := range steps {
		steps[i] = api.Step{Kind: 1, A: 10}
	}
	wantText(t, steps, strings.Repeat("read 10\n", 8192))
	wantParse(t, strings.Repeat("read 10\n", 8192), steps)
	steps[77].A = 100
	text, err := script.Text(steps)
	if len(text) != 65537 || err != nil {
		t.Fatalf("Text of 8192 steps: %d bytes, %v", len(text), err)
	}
	wantLong(t, text)
}

// noKinds are none: those next to them, some that are once they are cut down to fewer bits, both ends of their type.
func noKinds() []int {
	return []int{
		math.MinInt, math.MinInt + 1, math.MinInt + 4, -1 << 32, -1<<32 + 4, -256, -252, -11, -10, -5, -4, -2, -1, 0,
		11, 12, 13, 255, 256, 260, 1 << 16, 1<<16 + 4, 1 << 32, 1<<32 + 4, 1 << 62, math.MaxInt - 1, math.MaxInt,
	}
}

// noSteps can't be told.
func noSteps() []api.Step {
	var steps []api.Step
	for _, kind := range noKinds() {
		steps = append(steps, api.Step{Kind: kind}, api.Step{Kind: kind, A: 1}, api.Step{Kind: kind, B: 1}, api.Step{Kind: kind, A: -3, B: 7})
	}
	for _, of := range forms() {
		for _, n := range ends() {
			if n != 0 && of.numbers == 0 {
				steps = append(steps, api.Step{Kind: of.kind, A: n}, api.Step{Kind: of.kind, A: n, B: n}, api.Step{Kind: of.kind, A: n, B: -n})
			}
			if n != 0 && of.numbers < 2 {
				steps = append(steps, api.Step{Kind: of.kind, B: n}, api.Step{Kind: of.kind, A: 1, B: n}, api.Step{Kind: of.kind, A: -n, B: n})
			}
		}
	}
	return steps
}

// Alone, behind others, ahead of others, and ahead of another one that can't be told: the first one's number.
func TestTextOfWhatCantBeTold(t *testing.T) {
	s := source(21)
	for _, step := range noSteps() {
		wantNoText(t, []api.Step{step}, 1)
		wantNoText(t, []api.Step{step, {Kind: 4}}, 1)
		for _, count := range []int{1, 2, 30} {
			l := append(s.steps(count), step)
			wantNoText(t, l, count+1)
			wantNoText(t, append(l, s.steps(2)...), count+1)
			wantNoText(t, append(l, api.Step{}, api.Step{Kind: 11}), count+1)
		}
	}
}

// One at each place of a long list.
func TestTextOfOneAmiss(t *testing.T) {
	s := source(22)
	steps := s.steps(300)
	for i := range steps {
		was := steps[i]
		steps[i] = noSteps()[i*7%len(noSteps())]
		wantNoText(t, steps, i+1)
		steps[i] = was
	}
	wantText(t, steps, written(steps))
}

// The fault tells itself, and gives its Code.
func TestTextFaultIsWrapped(t *testing.T) {
	_, err := script.Text([]api.Step{{Kind: 4}, {Kind: 4, A: 1}})
	var code api.Code
	if !errors.Is(err, api.ErrForm) || !errors.As(err, &code) || code != api.ErrForm || err.Error() != "2:0: "+api.ErrForm.Error() {
		t.Errorf("Text: %v", err)
	}
}

func wantWrapped(t *testing.T, text string, want api.Code) {
	t.Helper()
	_, err := script.Parse(text)
	var code api.Code
	if !errors.Is(err, want) || !errors.As(err, &code) || code != want {
		t.Errorf("Parse(%q): %v, want %v within", text, err, want)
	}
}
