package script_test

import (
	"math"
	"strings"
	"testing"

	"patina/api"
	"patina/script"
)

// P21.2, of texts that have nothing amiss.

// Each kind's word with its numbers, alone, with and without the last byte 10.
func TestParseOfEachKind(t *testing.T) {
	for _, step := range every() {
		line := written([]api.Step{step})
		wantParse(t, line, []api.Step{step})
		wantParse(t, strings.TrimSuffix(line, "\n"), []api.Step{step})
	}
}

// The lines themselves, written out.
func TestParseOfLines(t *testing.T) {
	for line, want := range map[string]api.Step{
		"read 3":                     {Kind: api.StepRead, A: 3},
		"write 23 -7":                {Kind: api.StepWrite, A: 23, B: -7},
		"trim 0":                     {Kind: api.StepTrim},
		"mount":                      {Kind: api.StepMount},
		"report":                     {Kind: api.StepReport},
		"flip 95 2047":               {Kind: api.StepFlip, A: 95, B: 2047},
		"failprogram 11 4":           {Kind: api.StepFailProgram, A: 11, B: 4},
		"failerase 10":               {Kind: api.StepFailErase, A: 10},
		"cut 100":                    {Kind: api.StepCut, A: 100},
		"power":                      {Kind: api.StepPower},
		"read -1":                    {Kind: api.StepRead, A: -1},
		"cut 9223372036854775807":    {Kind: api.StepCut, A: math.MaxInt},
		"cut -9223372036854775808":   {Kind: api.StepCut, A: math.MinInt},
		"flip 0 9223372036854775807": {Kind: api.StepFlip, B: math.MaxInt},
		"write -9223372036854775808 9223372036854775807": {Kind: api.StepWrite, A: math.MinInt, B: math.MaxInt},
	} {
		wantParse(t, line, []api.Step{want})
		wantParse(t, line+"\n", []api.Step{want})
	}
}

// Many steps, in their order.
func TestParseOfAllKindsTogether(t *testing.T) {
	steps := every()
	for len(steps) > 0 {
		count := min(len(steps), 1000)
		wantParse(t, written(steps[:count]), steps[:count])
		steps = steps[count:]
	}
	wantParse(t, "power\nmount\nread 1\nread 1\nreport\nread 0", []api.Step{{Kind: 10}, {Kind: 4}, {Kind: 1, A: 1}, {Kind: 1, A: 1}, {Kind: 5}, {Kind: 1}})
}

// Texts without a step.
func TestParseOfNoWords(t *testing.T) {
	for _, text := range []string{
		"", "\n", "\n\n\n", " ", "     ", " \n", "\n ", "  \n \n   \n", "#", "#\n", " #", "   #  \n",
		"# read 3", "#read 3\n# write 1 2", "  # raed\n\n#", "####\n## #", "#\t\x00\xff\r", "# \n #\n  #",
		strings.Repeat("\n", 65536), strings.Repeat(" ", 65536), strings.Repeat("#", 65536), strings.Repeat("#\n", 32768),
	} {
		wantParse(t, text, nil)
	}
}

// Blanks in any number, ahead of the first word, between words and behind the last one.
func TestParseOfBlanks(t *testing.T) {
	want := []api.Step{{Kind: 2, A: 5, B: -6}}
	for _, ahead := range []int{0, 1, 2, 7, 300} {
		for _, between := range []int{1, 2, 3, 300} {
			for _, behind := range []int{0, 1, 2, 7, 300} {
				a, m, b := strings.Repeat(" ", ahead), strings.Repeat(" ", between), strings.Repeat(" ", behind)
				line := a + "write" + m + "5 " + m + "-6" + b
				wantParse(t, line, want)
				wantParse(t, line+"\n", want)
				wantParse(t, a+"mount"+b, []api.Step{{Kind: 4}})
				wantParse(t, line+"\n"+b+"\n"+a+"mount"+b, append(want[:1:1], api.Step{Kind: 4}))
			}
		}
	}
}

// A remark stands where a word may begin: ahead of the first one, behind the last one, behind any number of blanks. It ends with its line.
func TestParseOfRemarks(t *testing.T) {
	for _, remark := range []string{"#", "# so", "#so", "##", "# # #", "#read 4", "# 7", "#7", "#\t", "#\r", "#\x00\xfe", "#ä", "#     "} {
		for _, blanks := range []string{" ", "  ", "         "} {
			wantParse(t, "read 3"+blanks+remark, []api.Step{{Kind: 1, A: 3}})
			wantParse(t, "read 3"+blanks+remark+"\nmount", []api.Step{{Kind: 1, A: 3}, {Kind: 4}})
			wantParse(t, remark+"\n"+blanks+remark+"\npower"+blanks+remark+"\n", []api.Step{{Kind: 10}})
			wantParse(t, "flip"+blanks+"3"+blanks+"9"+blanks+remark, []api.Step{{Kind: 6, A: 3, B: 9}})
		}
	}
}

// Texts of 65536 bytes are read, whatever they are filled with; of one more they are not, whatever is amiss in them.
func TestParseOfLongTexts(t *testing.T) {
	for _, c := range []struct {
		ahead, part, behind string
		steps               []api.Step
	}{
		{"", "\n", "", nil},
		{"", " ", "", nil},
		{"", "#", "", nil},
		{"read 3", " ", "", []api.Step{{Kind: 1, A: 3}}},
		{"read 3 #", "x", "", []api.Step{{Kind: 1, A: 3}}},
		{"read 3", "\n", "", []api.Step{{Kind: 1, A: 3}}},
		{"", " ", "write 5 -6\n", []api.Step{{Kind: 2, A: 5, B: -6}}},
		{"", "\n", "mount", []api.Step{{Kind: 4}}},
		{"", "#\n", "power\n", []api.Step{{Kind: 10}}},
		{"flip 1", " ", "2", []api.Step{{Kind: 6, A: 1, B: 2}}},
	} {
		full := c.ahead + strings.Repeat(c.part, (65536-len(c.ahead)-len(c.behind))/len(c.part)) + c.behind
		full = strings.Repeat("\n", 65536-len(full)) + full
		wantParse(t, full, c.steps)
		wantLong(t, full+"\n")
		wantLong(t, " "+full)
		wantLong(t, full+full)
	}
	for _, text := range []string{string(make([]byte, 65537)), strings.Repeat("x", 65537), strings.Repeat("raed\n", 20000), strings.Repeat("\n", 1<<20), strings.Repeat("read 3 \n", 8192) + "#"} {
		wantLong(t, text)
	}
}

// As many steps as a text can have.
func TestParseOfManySteps(t *testing.T) {
	text := strings.Repeat("cut 7 \n", 9362)
	want := make([]api.Step, 9362)
	for i := range want {
		want[i] = api.Step{Kind: 9, A: 7}
	}
	wantParse(t, text, want)
	wantParse(t, text[:len(text)-1], want)
}

func wantLong(t *testing.T, text string) {
	t.Helper()
	if l, err := script.Parse(text); len(l) != 0 || err != api.ErrLong {
		t.Fatalf("Parse(%s): %v, %v, want ErrLong alone", short(text), l, err)
	}
}
