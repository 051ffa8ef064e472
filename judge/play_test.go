package judge_test

import (
	"errors"
	"fmt"
	"slices"
	"strings"
	"sync"
	"testing"

	"patina/api"
	"patina/judge"
	"patina/script"
	"patina/world"
)

// P23.2: Play.

// linesTold are the lines that a text's entries are told by, without the program.
func linesTold(l []api.Entry) string {
	var out string
	for _, e := range l {
		switch {
		case e.Reply.Code != 0:
			out += fmt.Sprintf("! %d\n", int(e.Reply.Code))
		case e.Step.Kind == 1:
			out += fmt.Sprintf("ok %x\n", e.Reply.Data)
		default:
			out += "ok\n"
		}
	}
	if number := told(l); number != -1 {
		return out + fmt.Sprintf("broken %d\n", number)
	}
	return out + "held\n"
}

// wantPlay holds Play of a text against lines.
func wantPlay(t *testing.T, text, lines string) {
	t.Helper()
	got, err := judge.Play(text)
	if err != nil || got != lines {
		t.Fatalf("Play(%.200q): %v, %s", text, err, parting(got, lines))
	}
}

// parting tells where two answers part.
func parting(got, want string) string {
	a, b := strings.Split(got, "\n"), strings.Split(want, "\n")
	for i := range min(len(a), len(b)) {
		if a[i] != b[i] {
			return fmt.Sprintf("line %d: %.60q, want %.60q", i, a[i], b[i])
		}
	}
	return fmt.Sprintf("%d lines, want %d", len(a), len(b))
}

// wantPlayed holds Play of a text against what a new world answers to its steps, and gives what the steps answered.
func wantPlayed(t *testing.T, text string) []api.Entry {
	t.Helper()
	steps, err := script.Parse(text)
	if err != nil {
		t.Fatal(err)
	}
	l := world.New().Run(steps)
	wantPlay(t, text, linesTold(l))
	return l
}

// wantNoPlay holds Play of a text that is none: the very error of Parse, and no answer.
func wantNoPlay(t *testing.T, text string, want error) {
	t.Helper()
	got, err := judge.Play(text)
	if got != "" || err == nil {
		t.Fatalf("Play(%.60q): %.60q, %v", text, got, err)
	}
	a, isA := err.(*api.Fault)
	b, isB := want.(*api.Fault)
	if isA != isB || isA && *a != *b || !isA && err != want {
		t.Fatalf("Play(%.60q): %v, want %v", text, err, want)
	}
}

// What Parse refuses: its error, itself, and nothing is played.
func TestPlayOfNoScript(t *testing.T) {
	for text, want := range map[string]error{
		"red":                            &api.Fault{Line: 1, At: 0, Err: api.ErrWord},
		"mount\nread 1\n  raed 3":        &api.Fault{Line: 3, At: 2, Err: api.ErrWord},
		"flip 3":                         &api.Fault{Line: 1, At: 6, Err: api.ErrDue},
		"mount\n\n# so\ntrim 03":         &api.Fault{Line: 4, At: 5, Err: api.ErrNumber},
		"mount 1":                        &api.Fault{Line: 1, At: 6, Err: api.ErrBehind},
		"cut 1\ncut 9223372036854775808": &api.Fault{Line: 2, At: 4, Err: api.ErrNumber},
		"mount\r\n":                      &api.Fault{Line: 1, At: 0, Err: api.ErrWord},
		"\x00":                           &api.Fault{Line: 1, At: 0, Err: api.ErrWord},
		strings.Repeat("#", 65537):       api.ErrLong,
		strings.Repeat("mount\n", 10923): api.ErrLong,
		strings.Repeat("?", 70000):       api.ErrLong,
	} {
		wantNoPlay(t, text, want)
		_, err := script.Parse(text)
		wantNoPlay(t, text, err)
		if !errors.Is(err, errors.Unwrap(want)) && err != want {
			t.Errorf("Parse(%.60q): %v, want %v", text, err, want)
		}
	}
}

// Texts without a step, up to the longest.
func TestPlayOfNothing(t *testing.T) {
	for _, text := range []string{"", "\n", "   ", "\n\n\n", "# read 1", "  # so\n\n#", strings.Repeat("\n", 65536), strings.Repeat("#", 65536)} {
		wantPlay(t, text, "held\n")
	}
}

// Each form of a line, for each kind of step.
func TestLinesOfSteps(t *testing.T) {
	const never = "! 15\n"
	none := "ok " + strings.Repeat("00", 160) + "\n"
	for text, lines := range map[string]string{
		"mount":                                    "ok\n",
		"mount\nmount":                             "ok\n! 12\n",
		"report":                                   never,
		"mount\nreport":                            "ok\nok\n",
		"read 0":                                   never,
		"read 24":                                  never,
		"mount\nread 0\nread 23":                   "ok\n" + none + none,
		"mount\nread 24\nread -1":                  "ok\n! 1\n! 1\n",
		"write 0 5":                                never,
		"mount\nwrite 0 5\nwrite 24 5":             "ok\nok\n! 1\n",
		"trim 0":                                   never,
		"mount\ntrim 0\ntrim -1":                   "ok\nok\n! 1\n",
		"flip 0 0\nflip 95 2047":                   "ok\nok\n",
		"flip 96 0\nflip 0 2048\nflip -1 -1":       "! 1\n! 1\n! 1\n",
		"failprogram 11 0\nfailprogram 0 99":       "ok\nok\n",
		"failprogram 12 0\nfailprogram 0 -1":       "! 1\n! 1\n",
		"failerase 0\nfailerase 12":                "ok\n! 1\n",
		"cut 0\ncut -1":                            "ok\n! 1\n",
		"power\npower":                             "ok\nok\n",
		"cut 0\nmount\nmount\nread 0\nread 99":     "ok\n! 7\n! 7\n! 15\n! 15\n",
		"cut 0\nmount\npower\nmount\nread 3":       "ok\n! 7\nok\nok\n" + none,
		"mount\ncut 3\nwrite 3 5\npower\nread 3":   "ok\nok\n! 7\nok\n! 15\n",
		"mount # so\n\n # cut 0\n  trim   3   #\n": "ok\nok\n",
	} {
		wantPlay(t, text, lines+"held\n")
		wantPlayed(t, text)
	}
}

// The bytes of a Read in small hexadecimal digits, two each, every byte that there is.
func TestBytesOfARead(t *testing.T) {
	t.Parallel()
	digits := "0123456789abcdef"
	for _, v := range []int{0, 1, 3, 5, 100, 255, -1, -77, 1 << 40} {
		var hex string
		for i := range 160 {
			b := byte(v + 7*i)
			hex += digits[b/16:b/16+1] + digits[b%16:b%16+1]
		}
		wantPlay(t, fmt.Sprintf("mount\nwrite 9 %d\nread 9\n", v), "ok\nok\nok "+hex+"\nheld\n")
	}
}

// A sector whose bytes can't be told, and a device that is worn out.
func TestLinesOfLoss(t *testing.T) {
	t.Parallel()
	l := wantPlayed(t, "mount\nwrite 3 5\nflip 1 0\nflip 1 8\nflip 1 16\nread 3\nread 3\nwrite 3 6\nread 3")
	wantCodes(t, l, 0, 0, 0, 0, 0, api.ErrMedia, api.ErrMedia, 0, 0)
	text := "mount\nwrite 3 5\n"
	for block := range 12 {
		text += fmt.Sprintf("failprogram %d 0\n", block)
	}
	l = wantPlayed(t, text+"write 3 6\ntrim 3\nread 3\ntrim 4")
	wantCodes(t, l[14:], api.ErrWornOut, api.ErrWornOut, 0, 0)
}

// wantCodes holds what steps answered.
func wantCodes(t *testing.T, l []api.Entry, codes ...api.Code) {
	t.Helper()
	var got []api.Code
	for _, e := range l {
		got = append(got, e.Reply.Code)
	}
	if !slices.Equal(got, codes) {
		t.Errorf("the answers are %v, want %v", got, codes)
	}
}

// In a world that is Broken the steps are told as they answer, and the last line is held.
func TestPlayOfABrokenWorld(t *testing.T) {
	t.Parallel()
	for _, chunk := range []int{0, 3} {
		text := "mount\nwrite 1 1\nwrite 2 2\nwrite 3 3\ncut 0\ntrim 1\npower\n"
		for place := range 96 {
			for i := range 9 {
				text += fmt.Sprintf("flip %d %d\n", place, 512*chunk+8*i)
			}
		}
		text += "mount\n"
		for sector := range 24 {
			text += fmt.Sprintf("read %d\nwrite %d 7\nread %d\n", sector, sector, sector)
		}
		l := wantPlayed(t, text)
		if !l[len(l)-1].Look.Broken {
			t.Error("it isn't broken")
		}
	}
}

// Each Play has a world of its own: the same text is told alike, whatever was played ahead or is at one time.
func TestPlaysAreTheirOwn(t *testing.T) {
	t.Parallel()
	texts := []string{
		"read 3\nmount\nread 3\nwrite 3 5\nread 3",
		"mount\nwrite 3 6\ncut 3\nwrite 3 7\npower\nmount\nread 3",
		"cut 0\nmount\nmount",
		"failprogram 0 0\nfailprogram 1 0\nfailprogram 2 0\nmount\nwrite 3 3\nread 3",
	}
	lines := make([]string, len(texts))
	for i, text := range texts {
		lines[i], _ = judge.Play(text)
		wantPlayed(t, text)
	}
	var all sync.WaitGroup
	for range 4 {
		for i, text := range texts {
			all.Go(func() {
				if got, err := judge.Play(text); err != nil || got != lines[i] {
					t.Errorf("Play(%q) is told otherwise: %v, %s", text, err, parting(got, lines[i]))
				}
			})
		}
	}
	all.Wait()
}
