package health_test

import (
	"math"
	"slices"
	"sync"
	"testing"

	"patina/health"
)

// R1, R3 and R4: all arguments, what is handed in is neither changed nor kept, what is answered is new memory, and hangs on what was done with that object alone.

// All calls at all ends of their arguments: each ends, with the chapter's answer.
func TestAllArgumentsAtTheirEnds(t *testing.T) {
	ends := []int{math.MinInt, math.MinInt + 1, -2, -1, 0, 1, 2, 3, 11, 12, 13, 64, 254, 255, 256, 512, 65534, 65535, 65536, 1 << 32, 1 << 62, math.MaxInt - 1, math.MaxInt}
	for _, a := range ends {
		for _, b := range ends {
			if a < 0 || b < 0 {
				wantNone(t, each(a), each(b))
				continue
			}
			h, l := begun(t, each(a), each(b))
			for _, at := range ends {
				wantRead(t, h, &l, at)
				wantReport(t, h, &l, at)
				wantStands(t, h, l)
				wantErased(t, h, &l, at)
				wantStands(t, h, l)
			}
			noted(h, &l)
			wantStands(t, h, l)
		}
	}
}

// spoil changes all of a list, its spare room too.
func spoil(list []int) {
	all := list[:cap(list)]
	for i := range all {
		all[i] = -77
	}
	_ = append(list[:3], 9, 9, 9)
}

// The lists handed to New stay as they are, with what stands behind them, whatever is called, also if New says ErrArg.
func TestWhatIsHandedInIsNotChanged(t *testing.T) {
	s := source(41)
	for range 30 {
		reads, scores := append(s.reads(), 5, 6, 7), append(s.scores(), 8, 9, 10)
		wasReads, wasScores := slices.Clone(reads), slices.Clone(scores)
		h, l := begun(t, reads[:12], scores[:12])
		for range 300 {
			s.turn(t, h, &l)
		}
		wantNone(t, reads, scores)
		wantNone(t, reads[:12], scores[:11])
		if !slices.Equal(reads, wasReads) || !slices.Equal(scores, wasScores) {
			t.Fatalf("the lists are %v, %v, they were %v, %v", reads, scores, wasReads, wasScores)
		}
	}
}

// The caller may change them later: no answer is changed by it, that of Due neither.
func TestWhatIsHandedInIsNotKept(t *testing.T) {
	s := source(42)
	for range 30 {
		reads, scores := s.reads(), s.scores()
		h, l := begun(t, reads, scores)
		spoil(reads)
		spoil(scores)
		wantStands(t, h, l)
		for range 300 {
			s.turn(t, h, &l)
			wantStands(t, h, l)
		}
	}
}

// One list for both: the reads and the scores are counted apart.
func TestOneListForBoth(t *testing.T) {
	list := each(2)
	h, l := begun(t, list, list)
	wantRead(t, h, &l, 1)
	wantStands(t, h, l)
	wantReport(t, h, &l, 2)
	wantStands(t, h, l)
	wantErased(t, h, &l, 3)
	wantStands(t, h, l)
	if !slices.Equal(list, each(2)) {
		t.Errorf("the list is %v", list)
	}
}

// The caller may change what Reads and Scores gave: no later answer is changed by it, and no earlier one.
func TestCountsAreTheCallersOwn(t *testing.T) {
	s := source(43)
	for range 20 {
		h, l := begun(t, s.reads(), s.scores())
		keptReads, keptScores := h.Reads(), h.Scores()
		wasReads, wasScores := slices.Clone(keptReads), slices.Clone(keptScores)
		for range 300 {
			s.turn(t, h, &l)
			spoil(h.Reads())
			spoil(h.Scores())
			wantStands(t, h, l)
		}
		if !slices.Equal(keptReads, wasReads) || !slices.Equal(keptScores, wasScores) {
			t.Fatalf("later on: %v, %v, want %v, %v", keptReads, keptScores, wasReads, wasScores)
		}
	}
}

// Twelve counts, and no spare room that is another's.
func TestCountsGrow(t *testing.T) {
	h, l := begun(t, each(4), each(5))
	first, second, third := append(h.Reads(), 1, 2), append(h.Reads(), 3, 4), append(h.Scores(), 6, 7)
	if !slices.Equal(first, append(each(4), 1, 2)) || !slices.Equal(second, append(each(4), 3, 4)) || !slices.Equal(third, append(each(5), 6, 7)) {
		t.Errorf("Reads() and Scores() with more behind: %v, %v, %v", first, second, third)
	}
	wantStands(t, h, l)
}

func TestEachHealthIsItsOwn(t *testing.T) {
	s := source(44)
	var made [6]*health.Health
	var ledgers [6]ledger
	reads, scores := s.reads(), s.scores()
	for i := range made {
		// The first three of the same lists.
		if i > 2 {
			reads, scores = s.reads(), s.scores()
		}
		made[i], ledgers[i] = begun(t, reads, scores)
	}
	for range 3000 {
		i := s.below(6)
		s.turn(t, made[i], &ledgers[i])
		for i := range made {
			wantStands(t, made[i], ledgers[i])
		}
	}
	fresh(t)
}

// The Noted of one is not the other's.
func TestTwoAreWrittenDownApart(t *testing.T) {
	one, l := fresh(t)
	other, m := fresh(t)
	for range 64 {
		wantRead(t, one, &l, 6)
		wantRead(t, other, &m, 6)
	}
	noted(one, &l)
	wantStands(t, one, l)
	wantStands(t, other, m)
	if one.Due() || !other.Due() {
		t.Errorf("Due(): %v, %v", one.Due(), other.Due())
	}
}

// Objects with which the same was done answer alike, at one time too.
func TestAnswersHangOnWhatWasDone(t *testing.T) {
	begin := source(45)
	reads, scores := begin.reads(), begin.scores()
	var wait sync.WaitGroup
	for range 8 {
		wait.Go(func() {
			s := source(46)
			h, err := health.New(reads, scores)
			if err != nil {
				t.Error(err)
				return
			}
			l := started(reads, scores)
			for range 2000 {
				at := s.below(14)
				if h.Read(at) != l.read(at) || h.Report(11-at) != l.report(11-at) {
					t.Errorf("Read(%d) or Report(%d)", at, 11-at)
					return
				}
				if s.below(50) == 0 {
					h.Noted()
					l.noteAll()
				}
				if !slices.Equal(h.Reads(), l.reads()) || !slices.Equal(h.Scores(), l.scores()) || h.Due() != l.due() {
					t.Errorf("Reads(): %v, Scores(): %v, Due(): %v, want it to stand so: %+v", h.Reads(), h.Scores(), h.Due(), l)
					return
				}
			}
		})
	}
	wait.Wait()
}
