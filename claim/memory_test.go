package claim_test

import (
	"math"
	"slices"
	"sync"
	"testing"

	"patina/api"
	"patina/claim"
)

// R1, R3 and R4: all arguments, what is handed in stays as it is, nothing is kept.

// filling is what stands beside a list in its own room.
func filling() api.Found { return found(0, 1, maxSeq, 200) }

// inRoom is a list within a greater one, with others ahead of it and behind it.
func inRoom(l []api.Found) (room, part []api.Found) {
	for range 5 {
		room = append(room, filling())
	}
	room = append(room, l...)
	for range len(l) + 40 {
		room = append(room, filling())
	}
	return room, room[5 : 5+len(l)]
}

// askAll asks every call of a list.
func askAll(l []api.Found, c api.Checkpoint) {
	for of := -1; of < 26; of++ {
		claim.Newest(l, of, -1)
		claim.Newest(l, of, 1)
	}
	claim.Live(l, c)
	claim.Next(l, c)
}

func TestTheListIsLeft(t *testing.T) {
	s := source(31)
	for range 400 {
		room, part := inRoom(s.founds(40))
		before := slices.Clone(room)
		c := s.checkpoint()
		for _, l := range [][]api.Found{part, part[:len(part):len(part)], room} {
			askAll(l, c)
			if !slices.Equal(room, before) {
				t.Fatalf("a list was changed, or what stands beside it: %+v, ahead %+v", room, before)
			}
		}
	}
}

// What stands behind a list, in its own room, isn't looked at.
func TestWhatStandsBehindAList(t *testing.T) {
	_, l := inRoom([]api.Found{found(9, 1, 5, 0), found(4, 2, 6, 0)})
	wantNewest(t, l, 1, 4, l[0])
	wantLive(t, l, api.Checkpoint{}, map[int]int{1: 9, 2: 4})
	wantNext(t, l, api.Checkpoint{}, 7)
	wantNone(t, l[:0], 1, -1)
	wantLive(t, l[:0], api.Checkpoint{}, nil)
	wantNext(t, l[:0], api.Checkpoint{}, 1)
}

// A list that is written over changes no answer that was given, and the next one hangs on what stands there then.
func TestNoListIsKept(t *testing.T) {
	s := source(32)
	for range 600 {
		l, c := s.founds(20), s.checkpoint()
		wanted, wasThere := newestOf(l, 1, 0)
		want, next := liveOf(l, c), nextOf(l, c)
		f, is := claim.Newest(l, 1, 0)
		live := claim.Live(l, c)
		before := slices.Clone(l)
		for i := range l {
			l[i] = s.found()
		}
		if f != wanted || is != wasThere || live != want {
			t.Fatalf("answers of %+v were changed: %+v, %v", before, f, live)
		}
		wantNewestAsTold(t, l, 1, 0)
		wantLiveAsTold(t, l, c)
		wantNext(t, l, c, nextOf(l, c))
		wantLiveAsTold(t, before, c)
		wantNext(t, before, c, next)
	}
}

// An answer that its owner changes is no other's.
func TestAnswersAreNew(t *testing.T) {
	l := examples()
	want := liveOf(l, api.Checkpoint{})
	first, second := claim.Live(l, api.Checkpoint{}), claim.Live(l, api.Checkpoint{})
	for of := range first {
		first[of] = 77
	}
	if second != want || claim.Live(l, api.Checkpoint{}) != want {
		t.Errorf("Live(%+v): %v, want %v", l, second, want)
	}
	f, _ := claim.Newest(l, 1, 3)
	f.Place, f.Tag.Seq = 55, 99
	wantNewest(t, l, 1, 3, found(8, 1, 5, 0))
}

// What was asked ahead is not seen in an answer.
func TestAnswersHangOnTheArgumentsAlone(t *testing.T) {
	s := source(33)
	l, c := s.founds(30), s.checkpoint()
	live, next := liveOf(l, c), nextOf(l, c)
	for range 300 {
		askAll(s.founds(30), s.checkpoint())
		askAll(nil, api.Checkpoint{})
		if got := claim.Live(l, c); got != live {
			t.Fatalf("Live(%+v, %+v): %v, want %v", l, c, got, live)
		}
		wantNext(t, l, c, next)
		wantNewestAsTold(t, l, 1, -1)
		wantNext(t, nil, api.Checkpoint{}, 1)
	}
}

// Lists and checkpoints all of whose numbers are at an end of their type, or beside it: every call ends.
func TestAllArgumentsAtTheirEnds(t *testing.T) {
	ends := []int{math.MinInt, math.MinInt + 1, -1, 0, 255, 256, math.MaxInt - 1, math.MaxInt}
	for _, a := range ends {
		for _, b := range ends {
			claim.Ahead(a, b)
			c := allFloors(int64(a))
			c.Next, c.Cursor = int64(b), a
			for block := range c.Bad {
				c.Bad[block], c.Reads[block], c.Scores[block] = block%2 == 0, a, b
			}
			l := []api.Found{
				{Place: a, Tag: api.Tag{Place: b, Of: a, Seq: int64(b), Copy: a}},
				{Place: b, Tag: api.Tag{Place: a, Of: b, Seq: int64(a), Copy: b}},
				{Place: 0, Tag: api.Tag{Of: 1, Seq: int64(a), Copy: b}},
				{Place: 9, Tag: api.Tag{Of: 1, Seq: 5, Copy: a}},
				{Place: 9, Tag: api.Tag{Of: a, Seq: 5}},
				{Place: a, Tag: api.Tag{Of: 1, Seq: 5}},
			}
			wantLiveAsTold(t, l, c)
			wantNext(t, l, c, nextOf(l, c))
			for _, of := range ends {
				for _, above := range ends {
					wantNewestAsTold(t, l, of, int64(above))
				}
			}
		}
	}
}

// A list of many more founds than there are pages.
func TestALongList(t *testing.T) {
	s := source(34)
	l := make([]api.Found, 20000)
	for i := range l {
		l[i] = s.found()
	}
	c := s.checkpoint()
	wantLiveAsTold(t, l, c)
	wantNext(t, l, c, nextOf(l, c))
}

// Since nothing is kept, several may ask at one time, of one list too.
func TestSeveralAskAtOneTime(t *testing.T) {
	shared, c := examples(), api.Checkpoint{}
	want := liveOf(shared, c)
	var wait sync.WaitGroup
	for start := range 8 {
		wait.Add(1)
		go func() {
			defer wait.Done()
			s := source(start)
			for range 200 {
				l, own := s.founds(20), s.checkpoint()
				if claim.Live(l, own) != liveOf(l, own) || claim.Next(l, own) != nextOf(l, own) || claim.Live(shared, c) != want || claim.Next(shared, c) != 6 {
					t.Errorf("Live or Next of %+v, %+v, or of %+v", l, own, shared)
					return
				}
			}
		}()
	}
	wait.Wait()
}
