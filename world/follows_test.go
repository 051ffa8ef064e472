package world_test

import (
	"bytes"
	"testing"

	"patina/api"
)

// P22.4 and P22.5 at their edges; the long runs stand in runs_test.go.

// hurtNext calls until the patrol comes to a sector, but one, and damages it: so the next call moves a block behind what it does itself.
func (s *scene) hurtNext(but int) {
	s.Helper()
	for range 12 {
		v := s.view()
		for of := range 24 {
			if of != but && v.Live[of] >= 0 && v.Live[of]/8 == v.Cursor/8 {
				s.hurt(v.Live[of], of%4, 2)
				return
			}
		}
		s.must(step(1, but))
	}
	s.fail("no sector: %+v", s.view())
}

// A write or a trim that is cut off at any of its steps is done, or it is not; the next read tells which, and it stays so behind mounts.
func TestACallThatWasCut(t *testing.T) {
	t.Parallel()
	for _, kind := range []int{2, 3} {
		done, not := 0, 0
		for budget := 0; ; budget++ {
			of := 1 + budget%23
			s := mounted(t)
			s.fill(0)
			s.hurtNext(of)
			s.must(step(9, budget))
			if s.do(step(kind, of, 200)).Code == 0 {
				break
			}
			if len(s.also[of]) != 1 {
				t.Fatal("it may not be done")
			}
			s.restart()
			told := s.must(step(1, of))
			if bytes.Equal(told, filled(of)) {
				not++
			} else {
				done++
			}
			for range 2 {
				s.again()
				if got := s.must(step(1, of)); !bytes.Equal(got, told) {
					t.Fatalf("the sector %d read as %v, and reads as %v", of, told, got)
				}
			}
		}
		if done < 10 || not < 4 {
			t.Errorf("the kind %d was done %d times, and %d times not", kind, done, not)
		}
	}
}

// Several calls of one sector are cut, one behind the other, without a read: each of them may be what the sector holds, and the next read tells.
func TestCallsThatWereCutWithoutARead(t *testing.T) {
	t.Parallel()
	s := mounted(t)
	s.fill(0)
	for turn := range 40 {
		for i := range 4 {
			s.must(step(9, (turn+3*i)%9))
			s.do(step(2+(turn+i)%2, 5, 100*turn+i))
			if !s.look.Mounted {
				s.restart()
			}
			s.must(step(10))
		}
		told := s.must(step(1, 5))
		s.again()
		if !bytes.Equal(s.must(step(1, 5)), told) {
			t.Fatal("it reads otherwise")
		}
	}
	if s.told[api.ErrPower] < 60 {
		t.Errorf("only %d calls were cut", s.told[api.ErrPower])
	}
}

// Once it is Worn a write or a trim may answer ErrWornOut, and changes nothing then: neither at once nor behind mounts.
func TestWornOutChangesNothing(t *testing.T) {
	t.Parallel()
	s := mounted(t)
	s.fill(0)
	for block := range 12 {
		s.must(step(7, block, 0))
		s.must(step(8, block))
	}
	for round := range 3 {
		for of := range 24 {
			s.want(step(2+(of+round)%2, of, 99), api.ErrWornOut)
			if got := s.must(step(1, of)); !bytes.Equal(got, filled(of)) {
				t.Fatalf("the sector %d reads as %v", of, got)
			}
		}
		off(t, s.chip)
		s.want(step(1, 3), api.ErrPower)
		s.restart()
	}
	if !s.look.Worn || s.look.Broken {
		t.Errorf("Look: %+v", s.look)
	}
}

// A trim of what isn't there is refused by nobody, worn or not.
func TestATrimOfNothing(t *testing.T) {
	s := mounted(t)
	s.must(step(2, 3, 3))
	for block := range 12 {
		s.must(step(7, block, 0))
	}
	s.want(step(3, 3), api.ErrWornOut)
	s.must(step(3, 4))
	s.want(step(2, 4, 4), api.ErrWornOut)
	s.must(step(1, 3))
}

// Sectors that aren't Whole answer ErrMedia until they are written, and all others what they hold.
func TestTheOthersAreNotAffected(t *testing.T) {
	t.Parallel()
	for _, many := range []int{3, 4, 5, 9} {
		s := mounted(t)
		s.fill(0)
		for of := 1; of < 24; of += 3 {
			s.hurt(s.view().Live[of], of%3, many)
			for other := range 24 {
				if other%3 != 1 || other > of {
					s.must(step(1, other))
				}
			}
			s.want(step(1, of), api.ErrMedia)
		}
		for of := 1; of < 24; of += 3 {
			s.want(step(1, of), api.ErrMedia)
			s.must(step(2+of%2, of, 77))
		}
		s.wantAll()
		if s.look != (api.Look{On: true, Mounted: true}) {
			t.Errorf("Look: %+v", s.look)
		}
	}
}

// cursorAt is a scene whose chip's checkpoint tells a cursor; it is mounted.
func cursorAt(t *testing.T, cursor int) *scene {
	t.Helper()
	s := newScene(t)
	program(t, s.chip, 0, pointed(t, 0, 5, api.Checkpoint{Next: 5, Cursor: cursor}))
	s.turn.cursor = cursor
	s.must(step(4))
	if got := s.view().Cursor; got != cursor {
		t.Fatalf("the cursor is %d, want %d", got, cursor)
	}
	return s
}

// From each cursor on, round and round: the eight pages are read, no more and no fewer.
func TestThePatrolFromEachCursor(t *testing.T) {
	t.Parallel()
	for cursor := range 96 {
		s := cursorAt(t, cursor)
		for range 2 {
			want := readsOf(s.chip)
			for _, place := range stepOf(s.view().Cursor) {
				want[place/8]++
			}
			s.must(step(1, 5))
			if got := readsOf(s.chip); got != want {
				t.Fatalf("from %d on: the reads are %v, want %v", cursor, got, want)
			}
		}
	}
}

// A page with two turned bytes counts until the call that reads it, and no longer; from each cursor on.
func TestDamageIsMovedByTheCallThatReadsIt(t *testing.T) {
	t.Parallel()
	for cursor := range 96 {
		s := cursorAt(t, cursor)
		s.hurt(0, cursor%4, 2)
		for {
			due := s.view().Cursor > 88 || s.view().Cursor == 0
			s.must(step(1, 5))
			if moved := s.view().Live[24] != 0; moved != due && s.view().Calls != 0 {
				t.Fatalf("from %d on: the cursor is %d, moved %v", cursor, s.view().Cursor, moved)
			}
			if s.view().Live[24] != 0 {
				break
			}
		}
	}
}

// What a Read answers is moved by that call, whichever chunk was turned, wherever the patrol is: with two turned bytes, not with one.
func TestWhatIsReadIsMoved(t *testing.T) {
	t.Parallel()
	s := mounted(t)
	s.fill(0)
	for turn := range 60 {
		of := turn * 7 % 24
		place := s.view().Live[of]
		many := 1 + turn%2
		at := (place - s.view().Cursor + 96) % 96
		s.hurt(place, turn%4, many)
		s.must(step(1, of))
		if moved := s.view().Live[of] != place; moved != (many == 2) && (many == 2 || at >= 8) {
			t.Fatalf("turn %d: the sector %d lay at %d, and lies at %d", turn, of, place, s.view().Live[of])
		}
		if many == 1 {
			// Turned back, it isn't damaged any more.
			s.hurt(place, turn%4, many)
		}
	}
	if s.turn.moved < 30 || s.turn.reports+s.turn.now < 10 {
		t.Errorf("%d damaged pages were read, %+v", s.turn.moved, s.turn)
	}
}

// Two turned bits make a report, at the least: so many as are needed, and no more reports.
func TestReportsHaveTheirFlips(t *testing.T) {
	t.Parallel()
	s := mounted(t)
	s.fill(0)
	for report := 1; report <= 20; report++ {
		of := report * 5 % 24
		s.hurt(s.view().Live[of], report%4, 2)
		s.must(step(1, of))
		if v := s.view(); v.Reports != report || s.turn.flips != 2*report {
			t.Fatalf("%d bits were turned: %+v", s.turn.flips, v)
		}
	}
}

// A mount's cursor lies at most eight calls behind: behind each number of calls, with a cut at the next one's first step.
func TestTheMountsCursor(t *testing.T) {
	t.Parallel()
	most := 0
	for calls := range 30 {
		s := mounted(t)
		for i := range calls {
			s.must(step(1+i%3, i%24, i))
		}
		was := s.view()
		s.again()
		back := (was.Cursor - s.view().Cursor + 96) % 96
		if back != 8*was.Calls {
			t.Fatalf("behind %d calls: %d of them since the cursor was noted, it is %d pages back", calls, was.Calls, back)
		}
		most = max(most, back)
	}
	if most < 40 || most > 64 {
		t.Errorf("at most %d pages", most)
	}
}

// The call that was cut off had noted its cursor: the mount's lies eight pages ahead of the last answered one's.
func TestTheMountsCursorAhead(t *testing.T) {
	t.Parallel()
	ahead, behind := 0, 0
	for budget := 0; ; budget++ {
		// The patrol reads the last pages of one block, and the first ones of the next.
		s := cursorAt(t, 12)
		s.fill(0)
		g := seen(s.chip)
		of := g.numberAt(12)
		if s.view().Cursor != 12 || of < 0 || of > 23 || g.numberAt(13) < 0 || g.numberAt(16) < 0 {
			t.Fatalf("View(): %+v", s.view())
		}
		// Three reports retire the block 1, by a checkpoint: one by the read, two by the patrol. The block 2 is moved behind it.
		for _, place := range []int{12, 13, 16} {
			s.hurt(place, 0, 2)
		}
		s.must(step(9, budget))
		if s.do(step(1, of)).Code == 0 {
			break
		}
		s.restart()
		if s.view().Cursor == 20 {
			ahead++
		} else {
			behind++
		}
	}
	if ahead < 5 || behind < 5 {
		t.Errorf("%d cursors ahead, %d behind", ahead, behind)
	}
}

// A call that is refused, or that the power cuts, isn't one of those that go round.
func TestWhatDoesNotGoRound(t *testing.T) {
	s := mounted(t)
	s.must(step(2, 3, 3))
	was := s.view()
	for _, of := range []api.Step{step(1, 24), step(2, -1, 3), step(3, 99), step(4), step(5), step(6, 1, 0), step(7, 11, 9), step(8, 11), step(9, 99), step(10), step(11)} {
		s.do(of)
		if v := s.view(); v != was {
			t.Errorf("%v: View() was %+v, and is %+v", of, was, v)
		}
	}
}
