package array_test

import (
	"testing"

	"patina/array"
)

// P20.4: a sector reads as it was written last, whatever was done to the others.

// Long runs of all calls, with all sectors asked on the way.
func TestLongRuns(t *testing.T) {
	for start := range 8 {
		s := source(40 + start)
		a, l := array.New(), lay{}
		for step := range 20000 {
			s.turn(t, a, l)
			if step%100 == 0 {
				wantStands(t, a, l)
			}
		}
		wantStands(t, a, l)
	}
}

// One sector was written, once; all others are written and trimmed on and on, and so are those that there aren't.
func TestOneSectorStays(t *testing.T) {
	for _, one := range sectors() {
		a, l := full(t, 70)
		want := l.read(one)
		s := source(50 + one)
		for range 500 {
			sector := s.below(24)
			if sector == one {
				wantWrite(t, a, l, s.of(noSectors()), s.bytes())
				wantTrim(t, a, l, s.of(noSectors()))
				wantWrite(t, a, l, one, text(s.of(noLengths()), 71))
			} else if s.below(3) == 0 {
				wantTrim(t, a, l, sector)
			} else {
				wantWrite(t, a, l, sector, s.bytes())
			}
			wantRead(t, a, one, want)
		}
		wantStands(t, a, l)
	}
}

// Written, trimmed, written: the last one tells.
func TestTheLastOneTells(t *testing.T) {
	a, l := array.New(), lay{}
	for turn := range 300 {
		sector := turn * 7 % 24
		wantWrite(t, a, l, sector, text(160, turn))
		wantRead(t, a, sector, string(text(160, turn)))
		if turn%3 == 0 {
			wantTrim(t, a, l, sector)
			wantRead(t, a, sector, noughts)
		}
		if turn%6 == 0 {
			wantWrite(t, a, l, sector, text(160, turn+1))
			wantRead(t, a, sector, string(text(160, turn+1)))
		}
	}
	wantStands(t, a, l)
}
