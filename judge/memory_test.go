package judge_test

import (
	"bytes"
	"math"
	"slices"
	"sync"
	"testing"

	"patina/api"
	"patina/judge"
)

// R1 to R4 of Judge, at lists that no world made: nothing panics, what is handed in is neither changed nor kept, and the answer hangs on the list alone.

// numbers are those that stand in a step.
func numbers() []int {
	return []int{0, 1, 3, 11, 12, 23, 24, 95, 96, 2047, 2048, -1, -24, 1 << 32, math.MinInt, math.MaxInt}
}

// anyLook is any look: Broken is rare, as it ends the asking.
func (s *source) anyLook() api.Look {
	l := api.Look{On: s.below(4) > 0, Mounted: s.below(4) > 0, Broken: s.below(50) == 0, Worn: s.below(3) == 0}
	for sector := range l.Marks {
		if s.below(4) == 0 {
			l.Marks[sector] = []int{1, 1, 1, 2, 2, 2, 3, -1, math.MinInt, math.MaxInt}[s.below(10)]
		}
	}
	return l
}

// anyStep is any step: mostly of a sector or two.
func (s *source) anyStep() api.Step {
	of := api.Step{Kind: s.below(14) - 1, A: s.below(26) - 1, B: s.below(6)}
	if s.below(3) > 0 {
		of.Kind, of.A = 1+s.below(4), s.below(2)
	}
	if s.below(5) == 0 {
		of.A = numbers()[s.below(16)]
	}
	if s.below(5) == 0 {
		of.B = numbers()[s.below(16)]
	}
	if s.below(40) == 0 {
		of.Kind = numbers()[s.below(16)]
	}
	return of
}

// anyReply is any reply.
func (s *source) anyReply() api.Reply {
	r := api.Reply{Code: api.Code(s.below(22) - 1), Data: s.anyData()}
	if s.below(2) == 0 {
		r.Code = 0
	}
	return r
}

// anyData are any bytes: those of a sector, or more, or fewer, or none.
func (s *source) anyData() []byte {
	switch s.below(8) {
	case 0:
		return nil
	case 1:
		return []byte{}
	case 2:
		return noughts()
	case 3:
		return noughts()[:s.below(160)]
	case 4:
		return append(filled(s.below(6)), make([]byte, s.below(3))...)
	}
	return filled(s.below(6))
}

// anyList is a list of entries that mostly can be: of the replies that are drawn for a step one that may be is taken, if there is one.
func (s *source) anyList(length, wrong int) []api.Entry {
	var l []api.Entry
	known, ahead := texts{}, api.Look{On: true}
	for range length {
		var e api.Entry
		for range 1 + wrong {
			e = entry(s.anyStep(), s.anyReply(), s.anyLook())
			if known.allows(e, ahead) {
				break
			}
		}
		if known.allows(e, ahead) {
			known.take(e, ahead)
		}
		l, ahead = append(l, e), e.Look
	}
	return l
}

// Any lists, judged as they are told.
func TestAnyLists(t *testing.T) {
	t.Parallel()
	from := source(1)
	ended := map[bool]int{}
	deepest := 0
	for turn := range 4000 {
		l := from.anyList(1+turn%40, 30)
		number := wantAsTold(t, l)
		ended[number == -1]++
		deepest = max(deepest, number)
	}
	if ended[true] < 300 || ended[false] < 300 || deepest < 20 {
		t.Errorf("-1 %d times, a number %d times, at most %d", ended[true], ended[false], deepest)
	}
}

// Lists of nothing but wrong things: the first entry is named, or is told Broken, and nothing panics.
func TestAnyNonsense(t *testing.T) {
	t.Parallel()
	from := source(2)
	for turn := range 20000 {
		wantAsTold(t, from.anyList(1+turn%6, 0))
	}
	for _, kind := range numbers() {
		for _, a := range numbers() {
			for _, b := range numbers() {
				for c := range api.Code(20) {
					wantAsTold(t, []api.Entry{entry(step(kind, a, b), code(c), on)})
					wantAsTold(t, list(entry(step(kind, a, b), code(c), off)))
				}
			}
		}
	}
}

// Data that are nil and Data that are empty are the same.
func TestNilAndEmpty(t *testing.T) {
	t.Parallel()
	from := source(3)
	for turn := range 1500 {
		l := from.anyList(1+turn%30, 30)
		want := judge.Judge(l)
		other := cloneOf(l)
		for i := range other {
			switch {
			case other[i].Reply.Data == nil:
				other[i].Reply.Data = []byte{}
			case len(other[i].Reply.Data) == 0:
				other[i].Reply.Data = nil
			}
		}
		if got := judge.Judge(other); got != want {
			t.Fatalf("%d, and with nil for empty %d: %s", want, got, shown(l))
		}
	}
}

// What is handed in is not changed, its spare room neither; and it is not kept: changed behind the call nothing is answered otherwise.
func TestWhatIsHandedIn(t *testing.T) {
	t.Parallel()
	from := source(4)
	for turn := range 300 {
		room := from.anyList(60, 30)
		// One memory for all Data, so that what is laid behind one would be seen in the next.
		var memory []byte
		for i, e := range room {
			from, to := len(memory), len(memory)+len(e.Reply.Data)
			memory = append(memory, e.Reply.Data...)
			room[i].Reply.Data = memory[from:to]
		}
		was, text := cloneOf(room), bytes.Clone(memory)
		number := judge.Judge(room[:1+turn%60])
		if !slices.EqualFunc(room, was, sameEntry) || !bytes.Equal(memory, text) {
			t.Fatal("it was changed")
		}
		if again := judge.Judge(was[:1+turn%60]); again != number {
			t.Fatalf("%d, and again %d", number, again)
		}
		clear(memory)
		clear(room)
		if again := judge.Judge(was[:1+turn%60]); again != number {
			t.Fatalf("%d, and with the first one's memory cleared %d", number, again)
		}
	}
}

// sameEntry tells whether two entries are the same, nil and empty Data apart.
func sameEntry(a, b api.Entry) bool {
	return a.Step == b.Step && a.Look == b.Look && a.Reply.Code == b.Reply.Code && bytes.Equal(a.Reply.Data, b.Reply.Data) && (a.Reply.Data == nil) == (b.Reply.Data == nil)
}

// Nothing is kept: what is judged between changes no answer.
func TestNothingIsKept(t *testing.T) {
	t.Parallel()
	from := source(5)
	var l [][]api.Entry
	var numbers []int
	for turn := range 300 {
		l = append(l, from.anyList(1+turn%30, 30))
		numbers = append(numbers, judge.Judge(l[turn]))
	}
	for turn := len(l) - 1; turn >= 0; turn-- {
		want(t, "backwards", l[turn], numbers[turn])
		want(t, "a write", list(write(3, turn)), -1)
		want(t, "noughts", list(read(3, noughts())), -1)
	}
}

// One list is judged by several at one time.
func TestAtOneTime(t *testing.T) {
	t.Parallel()
	from := source(6)
	for range 50 {
		l := from.anyList(200, 60)
		number := told(l)
		var all sync.WaitGroup
		got := make([]int, 8)
		for i := range got {
			all.Go(func() { got[i] = judge.Judge(l) })
		}
		all.Wait()
		for _, n := range got {
			if n != number {
				t.Fatalf("%d, want %d", n, number)
			}
		}
	}
}

// A long list, and one whose Data are long.
func TestLongLists(t *testing.T) {
	t.Parallel()
	l := list()
	for i := range 300000 {
		switch i % 3 {
		case 0:
			l = append(l, entry(step(2, i%24, i), code(0), on))
		case 1:
			l = append(l, entry(step(1, (i-1)%24), data(filled(i-1)), on))
		case 2:
			l = append(l, entry(step(2, i%24, i), code(api.ErrPower), dark))
		}
	}
	want(t, "long", l, -1)
	l = append(l, entry(step(1, 3), data(make([]byte, 1<<24)), on))
	want(t, "long Data", l, len(l)-1)
}
