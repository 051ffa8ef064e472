package health_test

import (
	"slices"
	"testing"
)

// The example of the chapter's table, of Due.

func TestExampleOfDue(t *testing.T) {
	h, _ := fresh(t)
	for range 64 {
		if err := h.Read(3); err != nil {
			t.Fatalf("Read(3): %v", err)
		}
	}
	if !h.Due() {
		t.Error("64 reads: it isn't due")
	}
	h.Noted()
	if h.Due() {
		t.Error("Noted(): it is due")
	}
	if err := h.Erased(3); err != nil {
		t.Errorf("Erased(3): %v", err)
	}
	if got := h.Reads(); !slices.Equal(got, make([]int, 12)) {
		t.Errorf("Reads(): %v", got)
	}
}

// P16.6.

// 63 more than written down aren't enough, 64 are, and so are all more, of each block.
func TestDueOfEachBlock(t *testing.T) {
	for _, at := range blocks() {
		h, l := fresh(t)
		for many := range 200 {
			if h.Due() != (many > 63) {
				t.Fatalf("%d reads of the block %d: Due(): %v", many, at, h.Due())
			}
			wantRead(t, h, &l, at)
		}
	}
}

// Each block counts for itself: 63 of all twelve aren't 64 of one.
func TestDueIsNoSum(t *testing.T) {
	for _, at := range blocks() {
		h, l := fresh(t)
		for range 63 {
			for _, other := range blocks() {
				wantRead(t, h, &l, other)
			}
		}
		wantStands(t, h, l)
		if h.Due() {
			t.Fatal("63 reads of each block: it is due")
		}
		wantRead(t, h, &l, at)
		if !h.Due() {
			t.Fatalf("64 reads of the block %d, 63 of the others: it isn't due", at)
		}
	}
}

// Reports and questions are no reads.
func TestReportsAreNotDue(t *testing.T) {
	h, l := fresh(t)
	for range 100 {
		for _, at := range blocks() {
			wantReport(t, h, &l, at)
		}
		wantStands(t, h, l)
	}
	if h.Due() {
		t.Error("reports alone: it is due")
	}
}

// Noted behind any number of reads: it is due 64 reads later again, of any block, no sooner.
func TestDueBehindNoted(t *testing.T) {
	for _, many := range []int{0, 1, 32, 63, 64, 65, 127, 128, 500} {
		for _, at := range blocks() {
			h, l := fresh(t)
			for range many {
				wantRead(t, h, &l, 4)
			}
			noted(h, &l)
			wantStands(t, h, l)
			for more := range 70 {
				if h.Due() != (more > 63) {
					t.Fatalf("%d reads of the block 4, Noted(), %d of the block %d: Due(): %v", many, more, at, h.Due())
				}
				wantRead(t, h, &l, at)
			}
		}
	}
}

// All blocks are written down at once, those that aren't due too.
func TestNotedIsOfAllBlocks(t *testing.T) {
	h, l := fresh(t)
	for _, at := range blocks() {
		for range 60 + at {
			wantRead(t, h, &l, at)
		}
	}
	noted(h, &l)
	wantStands(t, h, l)
	for range 63 {
		for _, at := range blocks() {
			wantRead(t, h, &l, at)
		}
		wantStands(t, h, l)
	}
	if h.Due() {
		t.Error("63 reads of each block behind Noted(): it is due")
	}
	if got := h.Reads(); !slices.Equal(got, []int{123, 124, 125, 126, 127, 128, 129, 130, 131, 132, 133, 134}) {
		t.Errorf("Reads(): %v", got)
	}
}

func TestNotedAtOnceAndTwice(t *testing.T) {
	s := source(21)
	for range 50 {
		h, l := begun(t, s.reads(), s.scores())
		for range 2 {
			noted(h, &l)
			wantStands(t, h, l)
		}
		for range 100 {
			wantRead(t, h, &l, 9)
		}
		for range 2 {
			noted(h, &l)
			wantStands(t, h, l)
		}
	}
}

// What was written down of an erased block is 0: it is due behind 64 reads of it, however many were written down.
func TestDueBehindErased(t *testing.T) {
	for _, at := range blocks() {
		for _, from := range []int{0, 63, 64, 100, 512, 65535} {
			h, l := begun(t, each(from), make([]int, 12))
			wantErased(t, h, &l, at)
			for many := range 70 {
				if h.Due() != (many > 63) {
					t.Fatalf("New of %d, Erased(%d), %d reads: Due(): %v", from, at, many, h.Due())
				}
				wantRead(t, h, &l, at)
			}
		}
	}
}

// The block that was due is erased: nothing is due any more, but if another one is.
func TestErasedOfADueBlock(t *testing.T) {
	for _, at := range blocks() {
		for _, other := range blocks() {
			h, l := fresh(t)
			for range 64 {
				wantRead(t, h, &l, at)
			}
			if other != at {
				wantErased(t, h, &l, other)
				if !h.Due() {
					t.Fatalf("64 reads of the block %d, Erased(%d): it isn't due", at, other)
				}
				for range 64 {
					wantRead(t, h, &l, other)
				}
			}
			wantErased(t, h, &l, at)
			if h.Due() != (other != at) {
				t.Fatalf("Erased(%d), the block %d was read 64 times: Due(): %v", at, other, h.Due())
			}
			wantStands(t, h, l)
		}
	}
}

// Near the most there are no 64 more: from 65472 on it is never due, from 65471 on it is at the last read.
func TestDueNearTheMost(t *testing.T) {
	for _, c := range []struct {
		from int
		due  bool
	}{{65470, true}, {65471, true}, {65472, false}, {65500, false}, {65534, false}, {65535, false}, {65536, false}, {1 << 40, false}} {
		for _, at := range blocks() {
			h, l := begun(t, twelve(at, c.from), make([]int, 12))
			for range 200 {
				wantRead(t, h, &l, at)
			}
			wantStands(t, h, l)
			if h.Due() != c.due {
				t.Fatalf("New of %d, 200 reads: Due(): %v", c.from, h.Due())
			}
			noted(h, &l)
			wantRead(t, h, &l, at)
			wantStands(t, h, l)
		}
	}
}
