package patrol_test

import (
	"testing"

	"patina/patrol"
)

// The examples of the chapter's table, of a Patrol.

func TestExampleOfAStep(t *testing.T) {
	p := begun(t, 90)
	told := p.Step()
	want := []int{90, 91, 92, 93, 94, 95, 0, 1}
	if len(told) != 8 || [8]int(told) != [8]int(want) {
		t.Errorf("Step(): %v, want %v", told, want)
	}
	if p.Cursor() != 2 || p.Calls() != 1 || p.Due() {
		t.Errorf("Cursor(): %d, Calls(): %d, Due(): %v", p.Cursor(), p.Calls(), p.Due())
	}
}

func TestExampleOfNoPlaces(t *testing.T) {
	wantNone(t, 96)
	wantNone(t, -1)
}

// P15.1.

func TestNewOfEachPlace(t *testing.T) {
	for _, cursor := range places() {
		wantStands(t, begun(t, cursor), way{cursor: cursor})
	}
}

func TestNewOfNoPlace(t *testing.T) {
	for _, cursor := range noPlaces() {
		wantNone(t, cursor)
	}
}

// P15.2 and P15.3.

// Also from the last seven places, from which the eight go round.
func TestStepFromEachPlace(t *testing.T) {
	for _, cursor := range places() {
		p, w := begun(t, cursor), way{cursor: cursor}
		wantStep(t, p, &w)
		if w.calls != 1 || w.cursor != (cursor+8)%96 {
			t.Fatalf("from %d: it stands so: %+v", cursor, w)
		}
	}
}

// The numbers themselves, where the round begins anew: by the end of the chip, one ahead of it, one behind.
func TestStepsPastTheLastPlace(t *testing.T) {
	cases := []struct {
		cursor int
		want   [8]int
		behind int
	}{
		{0, [8]int{0, 1, 2, 3, 4, 5, 6, 7}, 8},
		{87, [8]int{87, 88, 89, 90, 91, 92, 93, 94}, 95},
		{88, [8]int{88, 89, 90, 91, 92, 93, 94, 95}, 0},
		{89, [8]int{89, 90, 91, 92, 93, 94, 95, 0}, 1},
		{95, [8]int{95, 0, 1, 2, 3, 4, 5, 6}, 7},
	}
	for _, c := range cases {
		p := begun(t, c.cursor)
		told := p.Step()
		if len(told) != 8 || [8]int(told) != c.want || p.Cursor() != c.behind {
			t.Errorf("Step() from %d: %v, then Cursor(): %d, want %v, %d", c.cursor, told, p.Cursor(), c.want, c.behind)
		}
	}
}

// Many rounds, from each place: each Step begins where the one ahead of it ended, and the calls are never forgotten by themselves.
func TestManySteps(t *testing.T) {
	for _, cursor := range places() {
		p, w := begun(t, cursor), way{cursor: cursor}
		for many := range 300 {
			if w.calls != many {
				t.Fatalf("%d steps were counted as %d", many, w.calls)
			}
			wantStep(t, p, &w)
		}
	}
}

// P15.4.

// Seven calls aren't enough, eight are, and so are all more.
func TestDue(t *testing.T) {
	p := begun(t, 40)
	for calls := range 30 {
		if p.Calls() != calls || p.Due() != (calls > 7) {
			t.Fatalf("behind %d steps: Calls(): %d, Due(): %v", calls, p.Calls(), p.Due())
		}
		p.Step()
	}
}

// Of every number of calls: the cursor stays, and it is due eight calls later again, no sooner.
func TestNoted(t *testing.T) {
	for _, cursor := range []int{0, 1, 40, 88, 95} {
		for calls := range 20 {
			p, w := begun(t, cursor), way{cursor: cursor}
			for range calls {
				wantStep(t, p, &w)
			}
			w.calls = 0
			for range 2 {
				p.Noted()
				wantStands(t, p, w)
			}
			for range 10 {
				wantStep(t, p, &w)
			}
		}
	}
}

func TestNotedAtOnceBehindNew(t *testing.T) {
	for _, cursor := range places() {
		p, w := begun(t, cursor), way{cursor: cursor}
		for range 2 {
			p.Noted()
			wantStands(t, p, w)
		}
		wantStep(t, p, &w)
	}
}

// Between the calls of each round: those ahead of Noted don't count any more, however many they were.
func TestNotedAgainAndAgain(t *testing.T) {
	p, w := begun(t, 7), way{cursor: 7}
	for steps := range 30 {
		for range steps {
			wantStep(t, p, &w)
		}
		p.Noted()
		w.calls = 0
		wantStands(t, p, w)
	}
}

func TestWalksOfAllKinds(t *testing.T) {
	s := source(11)
	for _, cursor := range places() {
		p, w := begun(t, cursor), way{cursor: cursor}
		for range 200 {
			s.walk(t, p, &w)
		}
	}
}

// A refused New gives none, and the next one is as any other.
func TestNewBehindARefusedOne(t *testing.T) {
	for _, wrong := range noPlaces() {
		wantNone(t, wrong)
		p, err := patrol.New(5)
		if err != nil || p.Cursor() != 5 || p.Calls() != 0 {
			t.Fatalf("New(5) behind New(%d): %v, %v", wrong, p, err)
		}
	}
}
