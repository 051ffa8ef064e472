package health_test

import (
	"testing"
)

// P16.8, in long runs of all calls mixed, by the Health's own answers alone.

// wantNoneFalls holds the counts behind a call against those ahead of it. The block that was erased may have fallen, to 0; -1 says that none was.
func wantNoneFalls(t *testing.T, was, is []int, erased int) {
	t.Helper()
	for at := range 12 {
		switch {
		case at == erased && is[at] != 0:
			t.Fatalf("the block %d was erased, and has %d", at, is[at])
		case at != erased && (is[at] < was[at] || is[at] > was[at]+1):
			t.Fatalf("the block %d had %d, and has %d", at, was[at], is[at])
		}
	}
}

func TestReadsFallAtErasedAlone(t *testing.T) {
	s := source(31)
	for range 40 {
		h, l := begun(t, s.reads(), s.scores())
		reads, scores := h.Reads(), h.Scores()
		for range 1500 {
			kind, at := s.turn(t, h, &l)
			erased := -1
			if 0 < kind && kind < 6 && at >= 0 && at < 12 {
				erased = at
			}
			nowRead, nowScored := h.Reads(), h.Scores()
			wantNoneFalls(t, reads, nowRead, erased)
			wantNoneFalls(t, scores, nowScored, -1)
			reads, scores = nowRead, nowScored
		}
		wantStands(t, h, l)
	}
}

// Behind Noted, and behind New: it is due no sooner than some block was read 64 times more, whatever else was called.
func TestNothingIsDueTill64Reads(t *testing.T) {
	s := source(32)
	dues := 0
	for range 60 {
		h, l := begun(t, s.reads(), s.scores())
		var more [12]int
		for range 1500 {
			kind, at := s.turn(t, h, &l)
			if kind == 0 {
				more = [12]int{}
			}
			if kind >= 20 && at >= 0 && at < 12 {
				more[at]++
			}
			most := 0
			for _, many := range more {
				most = max(most, many)
			}
			if h.Due() && most < 64 {
				t.Fatalf("it is due behind so many reads more: %v", more)
			}
			if h.Due() {
				dues++
			}
		}
	}
	if dues == 0 {
		t.Error("it was never due")
	}
}

// Against the chapter's words at each call.
func TestTurnsOfAllKinds(t *testing.T) {
	s := source(33)
	for range 60 {
		h, l := begun(t, s.reads(), s.scores())
		for range 2000 {
			s.turn(t, h, &l)
			wantStands(t, h, l)
		}
	}
}
