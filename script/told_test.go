package script_test

import (
	"math"
	"math/big"
	"regexp"
	"slices"
	"strconv"
	"strings"
	"testing"

	"patina/api"
	"patina/script"
)

// What the chapter says, told without the program.

// form is a kind as the chapter's table has it.
type form struct {
	kind    int
	word    string
	numbers int
}

// forms are the lines of that table.
func forms() []form {
	return []form{
		{1, "read", 1}, {2, "write", 2}, {3, "trim", 1}, {4, "mount", 0}, {5, "report", 0},
		{6, "flip", 2}, {7, "failprogram", 2}, {8, "failerase", 1}, {9, "cut", 1}, {10, "power", 0},
	}
}

var (
	wordOf   = regexp.MustCompile(`[^ ]+`)
	numberOf = regexp.MustCompile(`^(0|-?[1-9][0-9]*)$`)
)

// fault is a fault's place and its Code.
type fault struct {
	line, at int
	code     api.Code
}

// told is what a text of at most 65536 bytes is read as: its steps, or the first fault.
func told(text string) ([]api.Step, *fault) {
	var steps []api.Step
	for i, line := range strings.Split(text, "\n") {
		step, is, wrong := toldLine(line)
		if wrong != nil {
			wrong.line = i + 1
			return nil, wrong
		}
		if is {
			steps = append(steps, step)
		}
	}
	return steps, nil
}

// toldLine is a line's step, if it has words, or what is amiss in it.
func toldLine(line string) (api.Step, bool, *fault) {
	var at []int
	var words []string
	end := len(line)
	for _, place := range wordOf.FindAllStringIndex(line, -1) {
		if line[place[0]] == '#' {
			end = place[0]
			break
		}
		at, words = append(at, place[0]), append(words, line[place[0]:place[1]])
	}
	if len(words) == 0 {
		return api.Step{}, false, nil
	}
	kind := slices.IndexFunc(forms(), func(f form) bool { return f.word == words[0] })
	if kind < 0 {
		return api.Step{}, false, &fault{at: at[0], code: api.ErrWord}
	}
	of := forms()[kind]
	step := api.Step{Kind: of.kind}
	for i := range of.numbers {
		if i+1 == len(words) {
			return api.Step{}, false, &fault{at: end, code: api.ErrDue}
		}
		n, is := toldNumber(words[i+1])
		if !is {
			return api.Step{}, false, &fault{at: at[i+1], code: api.ErrNumber}
		}
		*[]*int{&step.A, &step.B}[i] = n
	}
	if len(words) > of.numbers+1 {
		return api.Step{}, false, &fault{at: at[of.numbers+1], code: api.ErrBehind}
	}
	return step, true, nil
}

// toldNumber is a word's number, if it is one.
func toldNumber(word string) (int, bool) {
	if !numberOf.MatchString(word) {
		return 0, false
	}
	n, _ := new(big.Int).SetString(word, 10)
	return int(n.Int64()), n.IsInt64()
}

// written is the text of steps that can be told.
func written(l []api.Step) string {
	var text string
	for _, step := range l {
		of := forms()[step.Kind-1]
		line := []string{of.word, strconv.Itoa(step.A), strconv.Itoa(step.B)}
		text += strings.Join(line[:of.numbers+1], " ") + "\n"
	}
	return text
}

// ends are numbers of all kinds, both ends of int among them.
func ends() []int {
	return []int{
		math.MinInt, math.MinInt + 1, -1 << 62, math.MinInt32 - 1, math.MinInt32, -1000, -256, -255, -10, -9, -2, -1,
		0, 1, 2, 9, 10, 23, 24, 95, 96, 99, 100, 255, 256, 1000, 2047, 2048, math.MaxInt32, math.MaxInt32 + 1, 1 << 62, math.MaxInt - 1, math.MaxInt,
	}
}

// every is a step of each kind, at each number, and of each with two at each pair.
func every() []api.Step {
	var steps []api.Step
	for _, of := range forms() {
		switch of.numbers {
		case 0:
			steps = append(steps, api.Step{Kind: of.kind})
		case 1:
			for _, a := range ends() {
				steps = append(steps, api.Step{Kind: of.kind, A: a})
			}
		case 2:
			for _, a := range ends() {
				for _, b := range ends() {
					steps = append(steps, api.Step{Kind: of.kind, A: a, B: b})
				}
			}
		}
	}
	return steps
}

// short is a text as a failure tells it.
func short(text string) string {
	if len(text) > 300 {
		return strconv.Quote(text[:300]) + " .., " + strconv.Itoa(len(text)) + " bytes"
	}
	return strconv.Quote(text)
}

func wantParse(t *testing.T, text string, want []api.Step) {
	t.Helper()
	if l, err := script.Parse(text); !slices.Equal(l, want) || err != nil {
		t.Fatalf("Parse(%s): %v, %v, want %v", short(text), l, err, want)
	}
}

// wantFault asks for the fault itself, its Code itself, and no steps beside it.
func wantFault(t *testing.T, text string, want fault) {
	t.Helper()
	l, err := script.Parse(text)
	f, is := err.(*api.Fault)
	if !is || f == nil || *f != (api.Fault{Line: want.line, At: want.at, Err: want.code}) || len(l) != 0 {
		t.Fatalf("Parse(%s): %v, %v, want %v alone", short(text), l, err, want)
	}
}

// wantAsTold asks that a text is read as it is told.
func wantAsTold(t *testing.T, text string) {
	t.Helper()
	if l, wrong := told(text); wrong != nil {
		wantFault(t, text, *wrong)
	} else {
		wantParse(t, text, l)
	}
}

func wantText(t *testing.T, l []api.Step, want string) {
	t.Helper()
	if text, err := script.Text(l); text != want || err != nil {
		t.Fatalf("Text(%v): %s, %v, want %s", l, short(text), err, short(want))
	}
}

// wantNoText asks for the fault of the step that can't be told, the number of which is counted from 1 on.
func wantNoText(t *testing.T, l []api.Step, number int) {
	t.Helper()
	text, err := script.Text(l)
	f, is := err.(*api.Fault)
	if !is || f == nil || *f != (api.Fault{Line: number, Err: api.ErrForm}) || text != "" {
		t.Fatalf("Text(%v): %s, %v, want ErrForm at %d:0 alone", l, short(text), err, number)
	}
}

// source gives numbers that hang on its start alone.
type source uint64

func (s *source) below(n int) int {
	*s = *s*6364136223846793005 + 1442695040888963407
	return int(uint64(*s) >> 33 % uint64(n))
}

// number is one of any size.
func (s *source) number() int {
	if s.below(3) == 0 {
		return ends()[s.below(len(ends()))]
	}
	n := s.below(1<<31) << 32
	n = (n | s.below(1<<31)) >> s.below(63)
	if s.below(2) == 0 {
		return -n
	}
	return n
}

// step is one of any kind that can be told.
func (s *source) step() api.Step {
	of := forms()[s.below(10)]
	step := api.Step{Kind: of.kind}
	if of.numbers > 0 {
		step.A = s.number()
	}
	if of.numbers > 1 {
		step.B = s.number()
	}
	return step
}

// steps are so many of them.
func (s *source) steps(count int) []api.Step {
	l := make([]api.Step, count)
	for i := range l {
		l[i] = s.step()
	}
	return l
}

// blanks are some, or none.
func (s *source) blanks() string { return strings.Repeat(" ", s.below(3)*s.below(4)) }

// remark is one of any kind, or none: blanks alone. It stands where a word may begin.
func (s *source) remark() string {
	remarks := []string{"", "", "#", "# so", "#read 3", "##", "# read 3 # 4", "#\t\r\x00\xff", "#  "}
	return remarks[s.below(len(remarks))] + s.blanks()
}
