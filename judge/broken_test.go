package judge_test

import (
	"slices"
	"testing"

	"patina/api"
)

// P23.1: Broken ends the asking; the number is that of the first entry that can't be.

// wrongs are entries that can't be where the device is mounted and the sector 3 has noughts, each with what is seen behind it.
func wrongs(behind api.Look) []api.Entry {
	return []api.Entry{
		entry(step(1, 3), data(filled(5)), behind),
		entry(step(1, 3), data(noughts()[:159]), behind),
		entry(step(1, 3), code(api.ErrMedia), behind),
		entry(step(1, 24), code(0), behind),
		entry(step(2, 3, 5), code(api.ErrWornOut), behind),
		entry(step(3, 3), code(api.ErrForm), behind),
		entry(step(4), code(0), behind),
		entry(step(5), code(api.ErrNotMounted), behind),
		entry(step(6, 96, 0), code(0), behind),
		entry(step(7, 0, 0), code(api.ErrArg), behind),
		entry(step(8, 0), data(noughts()), behind),
		entry(step(9, -1), code(0), behind),
		entry(step(10), code(api.ErrPower), behind),
		entry(step(11), code(0), behind),
		entry(step(0), code(-1), behind),
	}
}

// broken is that look, and Broken.
func broken(l api.Look) api.Look {
	l.Broken = true
	return l
}

// Behind the entry itself, ahead of it, or further ahead: nothing is asked of it.
func TestBrokenEndsTheAsking(t *testing.T) {
	for _, e := range wrongs(on) {
		want(t, "not Broken", list(e), 1)
		for _, look := range []api.Look{on, off, idle, worn, marked(on, 3, 2)} {
			behind := e
			behind.Look = broken(look)
			want(t, "Broken behind", list(behind), -1)
			want(t, "Broken behind, at the first", []api.Entry{behind}, -1)
			breaks := entry(step(6, 0, 0), code(0), broken(look))
			want(t, "Broken ahead", list(breaks, e), -1)
			want(t, "Broken at the first, ahead", []api.Entry{breaks, e}, -1)
			want(t, "Broken further ahead", list(breaks, mark(3, 0), write(3, 5), e), -1)
			want(t, "Broken ahead, and behind", list(breaks, behind, e), -1)
		}
	}
}

// One that told Broken, and a later one that doesn't: it is over all the same.
func TestBrokenThatIsTakenBack(t *testing.T) {
	for _, e := range wrongs(on) {
		for many := range 6 {
			l := list(entry(step(5), code(0), broken(on)))
			for range many {
				l = append(l, mark(3, 0))
			}
			want(t, "taken back", append(l, e), -1)
		}
	}
}

// One ahead of it that can't be is named all the same.
func TestAheadOfBroken(t *testing.T) {
	for _, e := range wrongs(on) {
		want(t, "the one ahead", list(e, entry(step(5), code(0), broken(on))), 1)
		want(t, "further ahead", list(write(7, 7), e, write(7, 7), write(7, 8), entry(step(5), code(0), broken(off)), e), 2)
		first := entry(step(6, 0, 0), code(api.ErrArg), idle)
		want(t, "at the first", []api.Entry{first, entry(step(5), code(0), broken(on)), e}, 0)
	}
}

// The first of several that can't be, wherever it is.
func TestTheFirstIsNamed(t *testing.T) {
	t.Parallel()
	for _, e := range wrongs(on) {
		for at := 1; at < 40; at++ {
			l := list()
			for len(l) < 40 {
				l = append(l, write(7, len(l)))
			}
			want(t, "none", l, -1)
			// The others are as wrong behind it.
			for _, also := range []int{at, at + 1, 39} {
				if also < 40 {
					l[also] = e
				}
			}
			want(t, "the first", l, at)
		}
	}
	// What would mount it is the first entry itself.
	want(t, "at 0", slices.Concat([]api.Entry{entry(step(4), code(api.ErrState), on)}, list()), 0)
}

// The one that can't be changes nothing that is asked: what comes behind it isn't.
func TestBehindTheFirst(t *testing.T) {
	for _, e := range wrongs(on) {
		want(t, "one behind", list(e, write(3, 5), read(3, filled(9))), 1)
	}
}
