package judge_test

import (
	"bytes"
	"slices"
	"strconv"
	"testing"

	"patina/api"
	"patina/judge"
)

// What the chapter says, told without the program: its table row by row, the contents kept as texts.

// on is what is seen of a device that is mounted, and of which nothing is amiss.
var on = api.Look{On: true, Mounted: true}

// step is a step of a kind with its numbers.
func step(kind int, numbers ...int) api.Step {
	n := append(numbers, 0, 0)
	return api.Step{Kind: kind, A: n[0], B: n[1]}
}

// entry is a step that answered so, with what was seen behind it.
func entry(of api.Step, reply api.Reply, behind api.Look) api.Entry {
	return api.Entry{Step: of, Reply: reply, Look: behind}
}

// code is a reply without Data.
func code(c api.Code) api.Reply { return api.Reply{Code: c} }

// data is a reply of 0 with Data.
func data(b []byte) api.Reply { return api.Reply{Data: b} }

// filled is what chapter 21 says of Fill.
func filled(v int) []byte {
	b := make([]byte, 160)
	for i := range b {
		b[i] = byte(v + 7*i)
	}
	return b
}

// noughts are the bytes of a sector that was not written.
func noughts() []byte { return make([]byte, 160) }

// marked is a look with another mark of one sector.
func marked(of api.Look, sector, mark int) api.Look {
	of.Marks[sector] = mark
	return of
}

// row is a row of the table: for which kinds it is, where it applies, which Codes may be there.
type row struct {
	kinds   []int
	applies bool
	codes   []api.Code
}

// rows are those of the table, for one step with what was seen ahead of it and behind it.
func rows(of api.Step, ahead, behind api.Look) []row {
	sector := of.A >= 0 && of.A <= 23
	power := less(!behind.On, api.ErrPower)
	return []row{
		{[]int{1, 2, 3}, !ahead.Mounted, []api.Code{api.ErrNotMounted}},
		{[]int{1, 2, 3}, !sector, []api.Code{api.ErrArg}},
		{[]int{1}, sector && ahead.Marks[max(of.A, 0)%24] != 0, append(power, 0, api.ErrMedia)},
		{[]int{1}, true, append(power, 0)},
		{[]int{2, 3}, behind.Worn, append(power, 0, api.ErrWornOut)},
		{[]int{2, 3}, true, append(power, 0)},
		{[]int{4}, ahead.Mounted, []api.Code{api.ErrState}},
		{[]int{4}, !ahead.On, []api.Code{api.ErrPower}},
		{[]int{4}, true, append(power, 0)},
		{[]int{5}, !ahead.Mounted, []api.Code{api.ErrNotMounted}},
		{[]int{6}, of.A < 0 || of.A > 95 || of.B < 0 || of.B > 2047, []api.Code{api.ErrArg}},
		{[]int{7}, of.A < 0 || of.A > 11 || of.B < 0, []api.Code{api.ErrArg}},
		{[]int{8}, of.A < 0 || of.A > 11, []api.Code{api.ErrArg}},
		{[]int{9}, of.A < 0, []api.Code{api.ErrArg}},
		{[]int{5, 6, 7, 8, 9, 10}, true, []api.Code{0}},
		{[]int{of.Kind}, true, []api.Code{api.ErrForm}},
	}
}

// less is a Code alone where it may be, else none.
func less(may bool, c api.Code) []api.Code {
	if may {
		return []api.Code{c}
	}
	return nil
}

// codesOf are the Codes that may be: those of the first row that applies.
func codesOf(of api.Step, ahead, behind api.Look) []api.Code {
	for _, r := range rows(of, ahead, behind) {
		if r.applies && slices.Contains(r.kinds, of.Kind) {
			return r.codes
		}
	}
	return nil
}

// texts are the contents of the sectors; of one that isn't there the noughts alone.
type texts map[int]map[string]bool

// of are the contents of a sector.
func (t texts) of(sector int) map[string]bool {
	if t[sector] == nil {
		t[sector] = map[string]bool{string(noughts()): true}
	}
	return t[sector]
}

// allows tells whether a reply may be.
func (t texts) allows(e api.Entry, ahead api.Look) bool {
	if !slices.Contains(codesOf(e.Step, ahead, e.Look), e.Reply.Code) {
		return false
	}
	if e.Step.Kind != 1 || e.Reply.Code != 0 {
		return len(e.Reply.Data) == 0
	}
	if ahead.Marks[e.Step.A] == 2 {
		return len(e.Reply.Data) == 160
	}
	return t.of(e.Step.A)[string(e.Reply.Data)]
}

// take takes over what a reply that may be changes.
func (t texts) take(e api.Entry, ahead api.Look) {
	kind, sector := e.Step.Kind, e.Step.A
	if kind > 3 || kind < 1 || e.Reply.Code != 0 && e.Reply.Code != api.ErrPower {
		return
	}
	text := string(noughts())
	switch kind {
	case 1:
		if e.Reply.Code == api.ErrPower || ahead.Marks[sector] == 2 {
			return
		}
		text = string(e.Reply.Data)
	case 2:
		text = string(filled(e.Step.B))
	}
	if e.Reply.Code == 0 {
		delete(t, sector)
		clear(t.of(sector))
	}
	t.of(sector)[text] = true
}

// told is what Judge answers of a list.
func told(l []api.Entry) int {
	t, ahead := texts{}, api.Look{On: true}
	for i, e := range l {
		if ahead.Broken || e.Look.Broken {
			return -1
		}
		if !t.allows(e, ahead) {
			return i
		}
		t.take(e, ahead)
		ahead = e.Look
	}
	return -1
}

// want holds Judge of a list against a number.
func want(t *testing.T, name string, l []api.Entry, number int) {
	t.Helper()
	if got := judge.Judge(l); got != number {
		t.Fatalf("%s: Judge is %d, want %d, of %d entries: %s", name, got, number, len(l), shown(l))
	}
}

// wantAsTold holds Judge of a list against what is told.
func wantAsTold(t *testing.T, l []api.Entry) int {
	t.Helper()
	number := told(l)
	want(t, "as told", l, number)
	return number
}

// shown is the last ones of a list, to be read.
func shown(l []api.Entry) string {
	var out string
	for i, e := range l[max(0, len(l)-5):] {
		out += "\n" + strconv.Itoa(max(0, len(l)-5)+i) + ": " + stepShown(e.Step) + " -> " + strconv.Itoa(int(e.Reply.Code)) + ", " + strconv.Itoa(len(e.Reply.Data)) + " bytes, " + lookShown(e.Look)
	}
	return out
}

// stepShown is a step, to be read.
func stepShown(s api.Step) string {
	return strconv.Itoa(s.Kind) + " " + strconv.Itoa(s.A) + " " + strconv.Itoa(s.B)
}

// lookShown is a look, to be read.
func lookShown(l api.Look) string {
	var out string
	for _, part := range []struct {
		is   bool
		name string
	}{{l.On, "On"}, {l.Mounted, "Mounted"}, {l.Broken, "Broken"}, {l.Worn, "Worn"}} {
		if part.is {
			out += part.name + " "
		}
	}
	for sector, mark := range l.Marks {
		if mark != 0 {
			out += strconv.Itoa(sector) + ":" + strconv.Itoa(mark) + " "
		}
	}
	return out
}

// cloneOf are entries in memory of their own.
func cloneOf(l []api.Entry) []api.Entry {
	l = slices.Clone(l)
	for i := range l {
		l[i].Reply.Data = bytes.Clone(l[i].Reply.Data)
	}
	return l
}

// source gives numbers that hang on its start alone.
type source uint64

func (s *source) below(n int) int {
	*s = *s*6364136223846793005 + 1442695040888963407
	return int(uint64(*s) >> 33 % uint64(n))
}
