package script_test

import (
	"bytes"
	"math"
	"slices"
	"strings"
	"sync"
	"testing"

	"patina/api"
	"patina/script"
)

// R1, R3 and R4: all arguments, what is handed in is neither changed nor kept, what is answered is new memory, and hangs on the arguments alone.

// All calls at all ends of their arguments: each ends, and none panics.
func TestAllArgumentsAtTheirEnds(t *testing.T) {
	for _, n := range []int{math.MinInt, -1, 0, 1, math.MaxInt} {
		if len(script.Fill(n)) != 160 {
			t.Errorf("Fill(%d): %x", n, script.Fill(n))
		}
		for _, a := range ends() {
			for _, b := range ends() {
				_, err := script.Text([]api.Step{{Kind: n, A: a, B: b}})
				if (err == nil) != (n == 1 && b == 0) {
					t.Errorf("Text({%d %d %d}): %v", n, a, b, err)
				}
			}
		}
	}
	for _, text := range []string{"", "\x00", "\xff\xfe", strings.Repeat("\xff", 65536), strings.Repeat("\xff", 65537), strings.Repeat("read 3\n", 1<<20), strings.Repeat(" ", 1<<24)} {
		if len(text) > 65536 {
			wantLong(t, text)
		} else {
			wantAsTold(t, text)
		}
	}
}

// The steps of a Text stay as they are, with what stands behind them, whether they are told or not.
func TestStepsHandedInAreNotChanged(t *testing.T) {
	s := source(41)
	for range 200 {
		room := s.steps(40)
		room[35] = api.Step{Kind: 11, A: 5, B: 7}
		was := slices.Clone(room)
		wantText(t, room[:30], written(was[:30]))
		wantText(t, room[3:9:9], written(was[3:9]))
		wantNoText(t, room, 36)
		if !slices.Equal(room, was) {
			t.Fatalf("the steps are %v, they were %v", room, was)
		}
	}
}

// Their owner changes them behind the call: the text stays.
func TestStepsHandedInAreNotKept(t *testing.T) {
	s := source(42)
	for range 200 {
		l := s.steps(30)
		want := written(l)
		text, err := script.Text(l)
		if err != nil {
			t.Fatal(err)
		}
		copy(l, s.steps(30))
		if text != want {
			t.Fatalf("the text is %s, it was %s", short(text), short(want))
		}
		wantText(t, l, written(l))
		clear(l)
		wantNoText(t, l, 1)
		if text != want {
			t.Fatalf("the text is %s, it was %s", short(text), short(want))
		}
	}
}

// The bytes of a Fill are their receiver's, spare room too.
func TestFillsAreTheCallersOwn(t *testing.T) {
	for _, v := range ends() {
		first, second := script.Fill(v), script.Fill(v)
		was := bytes.Clone(first)
		for i := range first[:cap(first)] {
			first[:cap(first)][i] ^= 0x5a
		}
		first = append(first, 1, 2, 3)
		if !bytes.Equal(second, was) {
			t.Fatalf("Fill(%d), when another was changed: %x", v, second)
		}
		second = append(second, 4, 5, 6)
		if !bytes.Equal(first[160:], []byte{1, 2, 3}) {
			t.Fatalf("what stands behind Fill(%d): %x", v, first[160:])
		}
		wantFill(t, v)
	}
}

// The steps of a Parse are their receiver's, spare room too: no later answer is changed by what is done to them, and no earlier one.
func TestStepsAreTheCallersOwn(t *testing.T) {
	s := source(43)
	for count := range 70 {
		want := s.steps(count)
		text := s.loose(want)
		first, err := script.Parse(text)
		second, wrong := script.Parse(text)
		if err != nil || wrong != nil {
			t.Fatal(err, wrong)
		}
		for i := range first[:cap(first)] {
			first[:cap(first)][i] = api.Step{Kind: -7, A: 8, B: 9}
		}
		first = append(first, api.Step{Kind: 1})
		if !slices.Equal(second, want) {
			t.Fatalf("Parse(%s), when another was changed: %v", short(text), second)
		}
		second = append(second, api.Step{Kind: 2})
		if first[count] != (api.Step{Kind: 1}) || second[count] != (api.Step{Kind: 2}) {
			t.Fatalf("what stands behind Parse(%s): %v, %v", short(text), first[count], second[count])
		}
		wantParse(t, text, want)
	}
}

// A fault is its receiver's, too.
func TestFaultsAreTheCallersOwn(t *testing.T) {
	for text, want := range map[string]fault{"raed": {1, 0, api.ErrWord}, "\nread": {2, 4, api.ErrDue}, "read x": {1, 5, api.ErrNumber}, "mount 1": {1, 6, api.ErrBehind}} {
		_, first := script.Parse(text)
		_, second := script.Parse(text)
		*first.(*api.Fault) = api.Fault{Line: 77, At: 78, Err: api.ErrArg}
		if *second.(*api.Fault) != (api.Fault{Line: want.line, At: want.at, Err: want.code}) {
			t.Errorf("Parse(%q), when another fault was changed: %v", text, second)
		}
		wantFault(t, text, want)
	}
	_, first := script.Text([]api.Step{{}})
	*first.(*api.Fault) = api.Fault{Line: 77, At: 78, Err: api.ErrArg}
	wantNoText(t, []api.Step{{}}, 1)
}

// A fault leaves nothing behind: the next text is read as if there had been none.
func TestNothingIsKept(t *testing.T) {
	s := source(44)
	for range 500 {
		l := s.steps(s.below(10))
		text := s.loose(l)
		wantFault(t, "mount\nread 3\nraed", fault{3, 0, api.ErrWord})
		wantParse(t, text, l)
		wantNoText(t, []api.Step{{Kind: 4}, {Kind: 4, A: 1}}, 2)
		wantText(t, l, written(l))
	}
}

// Several may ask at one time, and are answered alike.
func TestSeveralAskAtOneTime(t *testing.T) {
	var wait sync.WaitGroup
	for range 8 {
		wait.Go(func() {
			s := source(45)
			for range 300 {
				l := s.steps(20)
				text, err := script.Text(l)
				back, wrong := script.Parse(text)
				if text != written(l) || err != nil || wrong != nil || !slices.Equal(back, l) {
					t.Errorf("Text(%v): %s, %v, read as %v, %v", l, short(text), err, back, wrong)
				}
				if _, err := script.Parse(text + "raed"); err == nil || *err.(*api.Fault) != (api.Fault{Line: 21, Err: api.ErrWord}) {
					t.Errorf("Parse(%s): %v", short(text+"raed"), err)
				}
			}
		})
	}
	wait.Wait()
}
