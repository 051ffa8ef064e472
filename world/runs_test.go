package world_test

import (
	"testing"

	"patina/api"
)

// P22.4, P22.5: long runs of scripts with harm. What each step is held against stands in scene_test.go.

// harms is what a run does to its chip.
type harms struct {
	bits  int // one step in so many is followed by some turned bits; 0: none
	burst int // so many of them at most
	data  int // damaged bytes of a codeword of a sector's data, at most
	fails int // blocks that are to fail
	cuts  int // one step in so many is a cut; 0: none
	wrong int // one step in so many has numbers or a kind that may not be; 0: none
}

// play plays so many calls, and what is done to the chip between them.
func (s *scene) play(from *source, h harms, calls int) {
	s.Helper()
	for range calls {
		if h.fails > 0 && from.below(calls/12+1) == 0 {
			h.fails--
			s.must(anyFailure(from))
		}
		if h.bits > 0 && from.below(h.bits) == 0 {
			s.decay(from, 1+from.below(h.burst), h.data)
		}
		if h.cuts > 0 && from.below(h.cuts) == 0 {
			s.must(step(9, from.below(1+from.below(40))))
		}
		if h.wrong > 0 && from.below(h.wrong) == 0 {
			s.do(anyWrong(from))
		}
		s.mountAnyhow(from, h)
		s.do(anyCall(from))
	}
}

// anyFailure makes a block fail at some write or erase.
func anyFailure(from *source) api.Step {
	if from.below(3) == 0 {
		return step(8, from.below(12))
	}
	return step(7, from.below(12), from.below(32))
}

// anyCall is a call of the host's, or a report.
func anyCall(from *source) api.Step {
	of := from.below(24)
	switch kind := from.below(21); {
	case kind < 8:
		return step(1, of)
	case kind < 10:
		return step(3, of)
	case kind < 11:
		return step(5)
	}
	return step(2, of, from.below(1<<20)-1<<19)
}

// anyWrong is a step that is refused, or that changes nothing.
func anyWrong(from *source) api.Step {
	kind := from.below(14) - 1
	wrong := []int{-1, 24, 96, 2048, -1 << 63, 1<<63 - 1, 25, -7}
	a, b := wrong[from.below(8)], wrong[from.below(8)]
	if kind == 9 || kind == 10 {
		a = -1 - from.below(9)
	}
	if kind == 7 {
		b = -1
	}
	return step(kind, a, b)
}

// mountAnyhow mounts a device that isn't mounted; the power may go again on the way, and bits turn while it is off.
func (s *scene) mountAnyhow(from *source, h harms) {
	s.Helper()
	for tries := 0; !s.look.Mounted; tries++ {
		if !s.look.On && from.below(3) == 0 {
			s.want(step(4), api.ErrPower)
		}
		if h.bits > 0 && from.below(4) == 0 {
			s.decay(from, from.below(4*h.burst), h.data)
		}
		if !s.look.On {
			s.must(step(10))
		}
		if tries < 4 && h.cuts > 0 && from.below(3) == 0 {
			s.must(step(9, from.below(20)))
		}
		s.do(step(4))
	}
}

// decay turns bits of any chunks, so many that nothing is Broken; half of them of what counts.
func (s *scene) decay(from *source, many, data int) {
	s.Helper()
	g := seen(s.chip)
	for range many {
		place, chunk := from.below(96), from.below(4)
		if from.below(2) == 0 {
			place = max(g.live[from.below(25)], 0)
		}
		bears := g.bears(place, chunk)
		if of := g.numberAt(place); of >= 0 && of < 24 && chunk < 3 {
			bears = data
		}
		// Now and then many bytes of one chunk: else few of them would ever have more than two.
		for range 1 + from.below(2)*from.below(1+data) {
			if worstOf(s.chip, place, chunk) < bears {
				s.must(step(6, place, 512*chunk+from.below(512)))
			}
		}
	}
}

// wantSound holds a run to have broken nothing, and to be kept behind mounts: each sector is read as it may be, or its mark says why not.
func (s *scene) wantSound() {
	s.Helper()
	for range 2 {
		s.must(step(10))
		if !s.look.Mounted {
			s.must(step(4))
		}
		for of := range 24 {
			if s.do(step(1, of)); s.look.Broken {
				s.fail("it is broken")
			}
		}
		s.must(step(9, 0))
		s.do(step(2, 0, 3))
	}
}

func TestRunsWithoutHarm(t *testing.T) {
	t.Parallel()
	for start := range 3 {
		from := source(start)
		s := newScene(t)
		s.play(&from, harms{wrong: 5}, 300)
		if want := (api.Look{On: true, Mounted: true}); s.look != want {
			t.Errorf("Look: %+v", s.look)
		}
		if v := s.view(); v.Reports != 0 || v.Moved != 0 || s.turn.calls < 250 {
			t.Errorf("View(): %+v", v)
		}
		s.wantAll()
		s.wantSound()
	}
}

// Bits turn, as many as are borne: nothing is lost, and what is found is moved.
func TestRunsWithDecay(t *testing.T) {
	t.Parallel()
	moved := 0
	for start := range 6 {
		from := source(100 + start)
		s := newScene(t)
		s.play(&from, harms{bits: 3, burst: 1 + 2*start, data: 2}, 150)
		s.wantAll()
		moved += s.turn.moved
		if s.look != (api.Look{On: true, Mounted: true, Worn: s.look.Worn}) {
			t.Errorf("Look: %+v", s.look)
		}
	}
	if moved < 30 {
		t.Errorf("only %d damaged pages were read", moved)
	}
}

// More bytes turn of the sectors' data: they are read as they were, or not at all, and the others as they were.
func TestRunsWithLoss(t *testing.T) {
	t.Parallel()
	told, marks := 0, [3]int{}
	for start := range 8 {
		from := source(200 + start)
		s := newScene(t)
		s.play(&from, harms{bits: 2, burst: 6, data: []int{3, 4, 5, 20}[start%4], cuts: start % 2 * 9}, 120)
		for _, mark := range s.look.Marks {
			marks[mark]++
		}
		s.wantSound()
		told += s.told[api.ErrMedia]
	}
	if told < 20 || marks[0] < 10 || marks[1] < 10 || marks[2] < 10 {
		t.Errorf("ErrMedia %d times, the marks %v", told, marks)
	}
}

// Up to two blocks fail: nothing is refused. More do: writes and trims answer 0 or ErrWornOut, and reads go on.
func TestRunsWithFailures(t *testing.T) {
	t.Parallel()
	worn, refused := 0, 0
	for start := range 12 {
		from := source(300 + start)
		s := newScene(t)
		s.play(&from, harms{fails: []int{1, 2, 6, 12}[start%4]}, 120)
		if s.look.Worn && start%4 < 2 {
			t.Error("it is worn")
		}
		if s.look.Worn {
			worn++
		}
		s.wantSound()
		refused += s.told[api.ErrWornOut]
	}
	if worn < 3 || refused < 30 {
		t.Errorf("%d are worn, ErrWornOut %d times", worn, refused)
	}
}

// Calls and mounts are cut at any step.
func TestRunsWithCuts(t *testing.T) {
	t.Parallel()
	cuts := 0
	for start := range 8 {
		from := source(400 + start)
		s := newScene(t)
		s.play(&from, harms{cuts: 1 + start, bits: start % 2 * 4, burst: 3, data: 2}, 120)
		s.wantSound()
		cuts += s.told[api.ErrPower]
	}
	if cuts < 200 {
		t.Errorf("only %d cuts", cuts)
	}
}

// All harm together.
func TestRunsWithAllHarm(t *testing.T) {
	t.Parallel()
	told := map[api.Code]int{}
	for start := range 20 {
		from := source(500 + start)
		s := newScene(t)
		s.play(&from, harms{bits: 1 + start%5, burst: 1 + start%7, data: 2 + start%4*3, fails: start % 5 * 3, cuts: 4 + start%9, wrong: 3}, 90)
		s.wantSound()
		for code, many := range s.told {
			told[code] += many
		}
	}
	for _, code := range []api.Code{0, api.ErrArg, api.ErrForm, api.ErrPower, api.ErrState, api.ErrMedia, api.ErrWornOut} {
		if told[code] < 20 {
			t.Errorf("%v was answered %d times", code, told[code])
		}
	}
}
