package patrol_test

import (
	"slices"
	"testing"

	"patina/patrol"
)

// P15.6, by the Patrol's own answers alone.

// told goes so many Steps, and gives how often each place was told.
func told(t *testing.T, p *patrol.Patrol, steps int) [96]int {
	t.Helper()
	var often [96]int
	for range steps {
		for _, place := range p.Step() {
			if place < 0 || place > 95 {
				t.Fatalf("Step() tells %d", place)
			}
			often[place]++
		}
	}
	return often
}

// From any cursor, and from wherever the rounds ahead of it left it.
func TestTwelveStepsTellEveryPageOnce(t *testing.T) {
	var once [96]int
	for i := range once {
		once[i] = 1
	}
	for _, cursor := range places() {
		p := begun(t, cursor)
		for range 5 {
			if often := told(t, p, 12); often != once {
				t.Fatalf("twelve steps from %d tell so often: %v", cursor, often)
			}
			if p.Cursor() != cursor {
				t.Fatalf("twelve steps from %d end at %d", cursor, p.Cursor())
			}
		}
	}
}

// Eleven don't: eight places are left.
func TestElevenStepsDoNot(t *testing.T) {
	for _, cursor := range places() {
		left := 0
		for _, often := range told(t, begun(t, cursor), 11) {
			if often == 0 {
				left++
			}
		}
		if left != 8 {
			t.Fatalf("eleven steps from %d leave %d places", cursor, left)
		}
	}
}

// A cut at any moment: some Steps are done, k of them behind what was written down, and a new one begins there. Whichever of the Steps ahead a page was told at last, it is told again within 12 + k.
func TestOneThatBeginsAnew(t *testing.T) {
	for _, cursor := range places() {
		for done := range 20 {
			for k := range done + 1 {
				wantTold(t, cursor, done, k)
			}
		}
	}
}

// wantTold goes done Steps, of which the last k weren't written down, then a new one's, and wants each 12 + k Steps together, which end behind the new one's beginning, to tell every page.
func wantTold(t *testing.T, cursor, done, k int) {
	t.Helper()
	p := begun(t, cursor)
	noted := cursor
	var steps [][]int
	for i := range done {
		if i == done-k {
			noted = p.Cursor()
		}
		steps = append(steps, p.Step())
	}
	if k == 0 {
		noted = p.Cursor()
	}
	anew := begun(t, noted)
	for range 12 + k {
		steps = append(steps, anew.Step())
	}
	for from := range len(steps) - 12 - k + 1 {
		var seen [96]bool
		for _, places := range steps[from : from+12+k] {
			for _, place := range places {
				seen[place] = true
			}
		}
		if slices.Contains(seen[:], false) {
			t.Fatalf("from %d, cut off behind %d steps, begun anew at %d, of %d steps ago: the %d steps from the step %d on leave a place", cursor, done, noted, k, 12+k, from)
		}
	}
}

// Each block waits once at most, so never more than twelve do.
func TestNoBlockWaitsTwice(t *testing.T) {
	s := source(31)
	for range 300 {
		q := &patrol.Queue{}
		for range 60 {
			q.Add(s.below(12))
			if s.below(5) == 0 {
				q.Next()
			}
		}
		var seen [12]bool
		for many := q.Len(); many > 0; many-- {
			block, ok := q.Next()
			if !ok || block < 0 || block > 11 || seen[block] || q.Len() != many-1 {
				t.Fatalf("of %d that wait Next() is %d, %v; it was told ahead: %v", many, block, ok, seen)
			}
			seen[block] = true
		}
		wantWait(t, q)
	}
}
