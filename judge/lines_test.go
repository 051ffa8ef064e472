package judge

import (
	"bytes"
	"math"
	"strconv"
	"strings"
	"testing"

	"patina/api"
	"patina/script"
)

// P23.2: the lines of entries that no world makes, and so no text; the last line of what can't be foremost.

// entryOf is an entry behind which the device is mounted.
func entryOf(kind, a int, code api.Code, data []byte) api.Entry {
	return api.Entry{
		Step:  api.Step{Kind: kind, A: a},
		Reply: api.Reply{Code: code, Data: data},
		Look:  api.Look{On: true, Mounted: true},
	}
}

func TestLinesOf(t *testing.T) {
	mount := entryOf(api.StepMount, 0, 0, nil)
	read := entryOf(api.StepRead, 3, 0, make([]byte, 160))
	wrong := entryOf(api.StepRead, 3, 0, script.Fill(0x98))
	none := "ok " + strings.Repeat("00", 160) + "\n"
	other := "ok 989fa6adb4bbc2c9d0"
	for name, c := range map[string]struct {
		l     []api.Entry
		lines string
	}{
		"none":              {nil, "held\n"},
		"held":              {[]api.Entry{mount, read}, "ok\n" + none + "held\n"},
		"broken at 0":       {[]api.Entry{entryOf(api.StepMount, 0, api.ErrForm, nil)}, "! 3\nbroken 0\n"},
		"broken at 1":       {[]api.Entry{mount, entryOf(api.StepRead, 3, api.ErrMedia, nil), read}, "ok\n! 13\n" + none + "broken 1\n"},
		"other codes":       {[]api.Entry{mount, entryOf(api.StepTrim, 3, -1, nil)}, "ok\n! -1\nbroken 1\n"},
		"codes far off":     {[]api.Entry{mount, entryOf(api.StepTrim, 3, math.MaxInt, nil)}, "ok\n! 9223372036854775807\nbroken 1\n"},
		"other steps of 0":  {[]api.Entry{mount, entryOf(99, 3, 0, nil)}, "ok\nok\nbroken 1\n"},
		"a report":          {[]api.Entry{mount, entryOf(api.StepReport, 0, 0, nil)}, "ok\nok\nheld\n"},
		"a read without it": {[]api.Entry{mount, entryOf(api.StepRead, 3, 0, nil)}, "ok\nok \nbroken 1\n"},
	} {
		if got := linesOf(c.l); got != c.lines {
			t.Errorf("%s: %q, want %q", name, got, c.lines)
		}
	}
	if got := linesOf([]api.Entry{mount, wrong}); !strings.HasPrefix(got, "ok\n"+other) || !strings.HasSuffix(got, "\nbroken 1\n") {
		t.Errorf("%q", got)
	}
}

// The number behind broken, of each length.
func TestLastLine(t *testing.T) {
	for _, number := range []int{0, 1, 9, 10, 99, 12345} {
		l := bytes.Repeat([]byte{api.StepPower}, number)
		var entries []api.Entry
		for _, kind := range l {
			entries = append(entries, entryOf(int(kind), 0, 0, nil))
		}
		entries = append(entries, entryOf(api.StepPower, 0, api.ErrPower, nil), entryOf(api.StepPower, 0, api.ErrPower, nil))
		want := strings.Repeat("ok\n", number) + "! 7\n! 7\nbroken " + strconv.Itoa(number) + "\n"
		if got := linesOf(entries); got != want {
			t.Errorf("%d: it ends with %q", number, got[max(0, len(got)-40):])
		}
	}
}
