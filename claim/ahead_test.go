package claim_test

import (
	"math"
	"testing"

	"patina/claim"
)

func wantAhead(t *testing.T, a, b int, want bool) {
	t.Helper()
	if got := claim.Ahead(a, b); got != want {
		t.Errorf("Ahead(%d, %d): %v, want %v", a, b, got, want)
	}
}

// The examples of the chapter's table.
func TestExamplesOfAhead(t *testing.T) {
	wantAhead(t, 0, 1, true)
	wantAhead(t, 255, 0, true)
	wantAhead(t, 1, 0, false)
	wantAhead(t, 3, 3, false)
	wantAhead(t, 0, 128, false)
}

// P10.1.

func TestAheadOfAllPairs(t *testing.T) {
	for a := range 256 {
		for b := range 256 {
			wantAhead(t, a, b, isAhead(a, b))
		}
	}
}

// The ends of the half of the ring, at every copy: 1 and 127 on are ahead, the same one, 128 and all others are not.
func TestEndsOfAhead(t *testing.T) {
	for a := range 256 {
		for steps, want := range map[int]bool{0: false, 1: true, 2: true, 126: true, 127: true, 128: false, 129: false, 254: false, 255: false} {
			wantAhead(t, a, (a+steps)%256, want)
		}
	}
}

// Of two copies at most one is ahead, and of two that aren't 128 apart or the same, one is.
func TestAheadOfOneAlone(t *testing.T) {
	for a := range 256 {
		for b := range 256 {
			one, other := claim.Ahead(a, b), claim.Ahead(b, a)
			if one && other {
				t.Errorf("%d and %d are ahead of one another", a, b)
			}
			if neither := a == b || a-b == 128 || b-a == 128; neither == (one || other) {
				t.Errorf("%d and %d: %v, %v", a, b, one, other)
			}
		}
	}
}

// What is no copy is ahead of none, and none ahead of it, whatever it is modulo 256.
func TestAheadOfNoCopies(t *testing.T) {
	none := []int{math.MinInt, math.MinInt + 1, math.MinInt + 255, math.MinInt + 256, -65536, -512, -257, -256, -255, -129, -128, -127, -2, -1,
		256, 257, 383, 384, 511, 512, 65536, math.MaxInt - 256, math.MaxInt - 255, math.MaxInt - 1, math.MaxInt}
	for _, a := range none {
		for b := range 256 {
			wantAhead(t, a, b, false)
			wantAhead(t, b, a, false)
		}
		for _, b := range none {
			wantAhead(t, a, b, false)
		}
	}
}

func TestAheadRoundBothEnds(t *testing.T) {
	for a := -600; a < 900; a++ {
		for b := -600; b < 900; b++ {
			wantAhead(t, a, b, isAhead(a, b))
		}
	}
}
