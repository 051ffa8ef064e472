package world_test

import (
	"bytes"
	"slices"
	"testing"

	"patina/api"
	"patina/array"
	"patina/nand"
	"patina/script"
	"patina/world"
)

// A scene is a world, and beside it all that the chapter says of it: what is to be seen (P22.3), an array of sectors (P22.4), and how the device goes round (P22.5). Each step that is done in a scene is held against these.

type scene struct {
	*testing.T
	w    *world.World
	chip *nand.Chip
	look api.Look     // what is to be seen, by a second reading
	disk *array.Array // what the sectors hold
	also [24][][]byte // what they may hold instead, behind calls that the power cut
	done []api.Step   // the steps so far
	told map[api.Code]int
	turn turning
}

// turning is what P22.5 speaks of.
type turning struct {
	cursor  int     // behind the last call or mount that was answered
	flips   int     // bits that were turned
	reports int     // of mounts that have been
	now     int     // of this one
	reads   [12]int // of each block, erased or not
	calls   int     // that were held against it
	moved   int     // damaged pages that a call has read, and that counted no more behind it
}

// newScene is a scene of a new world.
func newScene(t *testing.T) *scene {
	t.Helper()
	w := world.New()
	return &scene{T: t, w: w, chip: w.Chip(), look: api.Look{On: true}, disk: array.New(), told: map[api.Code]int{}}
}

// mounted is one whose device is mounted.
func mounted(t *testing.T) *scene {
	t.Helper()
	s := newScene(t)
	s.must(step(4))
	return s
}

// step is a step of a kind with its numbers.
func step(kind int, numbers ...int) api.Step {
	n := append(numbers, 0, 0)
	return api.Step{Kind: kind, A: n[0], B: n[1]}
}

// do does a step.
func (s *scene) do(of api.Step) api.Reply {
	s.Helper()
	ahead, was := s.look, s.chip.Clone()
	view, _ := s.w.View()
	reply := s.w.Do(of)
	s.done = append(s.done, of)
	s.told[reply.Code]++
	s.lookBehind(of, reply)
	if got := s.w.Look(); got != s.look {
		s.fail("Look: %+v, want %+v", got, s.look)
	}
	if !s.look.Broken {
		s.wantReply(of, reply, ahead)
	}
	s.count(of, reply, was)
	if !s.look.Broken && !s.look.Worn {
		s.wantTurn(of, reply, view, was)
	}
	return reply
}

// fail gives up, and tells the last step.
func (s *scene) fail(form string, parts ...any) {
	s.Helper()
	s.Logf("step %d, %v", len(s.done)-1, s.done[len(s.done)-1])
	s.Fatalf(form, parts...)
}

// must does a step that answers 0, and gives its bytes.
func (s *scene) must(of api.Step) []byte {
	s.Helper()
	return s.want(of, 0)
}

// want does a step that answers a Code, and gives its bytes.
func (s *scene) want(of api.Step, code api.Code) []byte {
	s.Helper()
	reply := s.do(of)
	if reply.Code != code {
		s.fail("%v, want %v", reply.Code, code)
	}
	return reply.Data
}

// lookBehind takes over what is to be seen behind a step.
func (s *scene) lookBehind(of api.Step, reply api.Reply) {
	switch {
	case of.Kind <= 3 && reply.Code == api.ErrPower:
		s.look.Mounted = false
	case of.Kind == 4 && reply.Code == 0:
		s.look.Mounted = true
	case (of.Kind == 2 || of.Kind == 3) && reply.Code == 0:
		s.look.Marks[of.A] = 0
	}
	g := seen(s.chip)
	s.look.On = s.chip.On()
	s.look.Broken = s.look.Broken || isBroken(s.chip, g)
	s.look.Worn = s.look.Worn || isWorn(s.chip, g)
	for sector := range 24 {
		s.look.Marks[sector] = max(s.look.Marks[sector], markOf(s.chip, g, sector))
	}
}

// P22.4.

// wantReply holds what a step answered against what it may answer, with what was seen ahead of it and behind it.
func (s *scene) wantReply(of api.Step, reply api.Reply, ahead api.Look) {
	s.Helper()
	var codes []api.Code
	switch of.Kind {
	case 1, 2, 3:
		codes = s.wantCall(of, reply, ahead)
	case 4:
		codes = s.mountCodes(ahead)
	case 5:
		codes = []api.Code{0}
		if !ahead.Mounted {
			codes = []api.Code{api.ErrNotMounted}
		}
	default:
		codes = []api.Code{harmCode(of)}
	}
	if !slices.Contains(codes, reply.Code) {
		s.fail("%v, want one of %v", reply.Code, codes)
	}
	if want := of.Kind == 1 && reply.Code == 0; want != (reply.Data != nil) || want != (len(reply.Data) == 160) {
		s.fail("%v with %v", reply.Code, reply.Data)
	}
}

// mountCodes are what a mount may answer.
func (s *scene) mountCodes(ahead api.Look) []api.Code {
	switch {
	case ahead.Mounted:
		return []api.Code{api.ErrState}
	case !ahead.On, !s.look.On:
		return []api.Code{api.ErrPower}
	}
	return []api.Code{0}
}

// harmCode is what a step answers that is none of the device's.
func harmCode(of api.Step) api.Code {
	below := func(n, many int) bool { return n >= 0 && n < many }
	is := true
	switch of.Kind {
	case 6:
		is = below(of.A, 96) && below(of.B, 2048)
	case 7:
		is = below(of.A, 12) && of.B >= 0
	case 8:
		is = below(of.A, 12)
	case 9:
		is = of.A >= 0
	case 10:
	default:
		return api.ErrForm
	}
	if !is {
		return api.ErrArg
	}
	return 0
}

// wantCall takes over what a call does to the array, and tells which Codes it may answer.
func (s *scene) wantCall(of api.Step, reply api.Reply, ahead api.Look) []api.Code {
	s.Helper()
	switch {
	case !ahead.Mounted:
		return []api.Code{api.ErrNotMounted}
	case of.A < 0 || of.A > 23:
		return []api.Code{api.ErrArg}
	case !s.look.On:
		// An answer that the power cut is the only one that it leaves.
		if of.Kind != 1 {
			s.also[of.A] = append(s.also[of.A], textOf(of))
		}
		return []api.Code{api.ErrPower}
	case of.Kind == 1:
		return s.wantRead(of.A, reply, ahead.Marks[of.A])
	case reply.Code == api.ErrWornOut && s.look.Worn:
		return []api.Code{api.ErrWornOut}
	}
	s.put(of.A, textOf(of))
	return []api.Code{0}
}

// textOf are the bytes that a write or a trim gives a sector.
func textOf(of api.Step) []byte {
	if of.Kind == 3 {
		return make([]byte, 160)
	}
	return script.Fill(of.B)
}

// put gives a sector of the array its bytes, and no others that it may have.
func (s *scene) put(sector int, b []byte) {
	s.Helper()
	if err := s.disk.Write(sector, b); err != nil {
		s.fail("Write(%d): %v", sector, err)
	}
	s.also[sector] = nil
}

// wantRead holds the bytes of a read against the array's, and tells which Codes it may answer.
func (s *scene) wantRead(sector int, reply api.Reply, mark int) []api.Code {
	s.Helper()
	codes := []api.Code{0}
	if mark != api.Whole {
		codes = append(codes, api.ErrMedia)
	}
	if reply.Code != 0 || mark == api.Gone {
		return codes
	}
	if !s.may(sector, reply.Data) {
		s.fail("the sector %d reads as %v", sector, reply.Data)
	}
	s.put(sector, reply.Data)
	return codes
}

// may tells whether a sector may have these bytes.
func (s *scene) may(sector int, b []byte) bool {
	own, _ := s.disk.Read(sector)
	return slices.ContainsFunc(append(s.also[sector], own), func(text []byte) bool { return bytes.Equal(text, b) })
}

// P22.5.

// count counts what a step has turned, read and moved.
func (s *scene) count(of api.Step, reply api.Reply, was *nand.Chip) {
	if of.Kind == 6 && reply.Code == 0 {
		s.turn.flips++
	}
	for block, many := range readsOf(s.chip) {
		if before, _ := was.Reads(block); many >= before && !wasErased(was, s.chip, block) {
			many -= before
		}
		s.turn.reads[block] += many
	}
	if of.Kind == 4 && reply.Code == 0 {
		s.turn.reports, s.turn.now = s.turn.reports+s.turn.now, 0
	}
	if v, err := s.w.View(); err == nil {
		s.turn.now = v.Reports
	}
}

// wantTurn holds a call or a mount that was answered against what the patrol does.
func (s *scene) wantTurn(of api.Step, reply api.Reply, ahead api.View, was *nand.Chip) {
	s.Helper()
	v, err := s.w.View()
	if err != nil || reply.Code == api.ErrArg || reply.Code == api.ErrState {
		return
	}
	switch of.Kind {
	case 1, 2, 3:
		s.wantPatrol(ahead, v, was)
		s.wantRefreshed(of, reply, was)
		s.turn.cursor = v.Cursor
		s.turn.calls++
	case 4:
		// At most eight calls behind, or eight pages ahead.
		if back := (s.turn.cursor - v.Cursor + 96) % 96; back%8 != 0 || back > 64 && back != 88 {
			s.fail("the cursor was %d, and is %d", s.turn.cursor, v.Cursor)
		}
		s.turn.cursor = v.Cursor
	}
	if slices.Max(s.turn.reads[:]) < 512 && 2*(s.turn.reports+s.turn.now) > s.turn.flips {
		s.fail("%d bits were turned, there were %d reports", s.turn.flips, s.turn.reports+s.turn.now)
	}
}

// wantPatrol holds a call to have read the eight pages from the cursor on, and to have put that eight on.
func (s *scene) wantPatrol(ahead, v api.View, was *nand.Chip) {
	s.Helper()
	if v.Cursor != (ahead.Cursor+8)%96 || ahead.Cursor != s.turn.cursor {
		s.fail("the cursor was %d and %d, and is %d", s.turn.cursor, ahead.Cursor, v.Cursor)
	}
	least := readsOf(was)
	for _, place := range stepOf(ahead.Cursor) {
		least[place/8]++
	}
	for block, many := range readsOf(s.chip) {
		if many < least[block] && !wasErased(was, s.chip, block) {
			s.fail("the block %d was read %d times, want %d", block, many, least[block])
		}
	}
}

// wantRefreshed holds what was read damaged to count no more.
func (s *scene) wantRefreshed(of api.Step, reply api.Reply, was *nand.Chip) {
	s.Helper()
	g, now := seen(was), seen(s.chip)
	places := stepOf(s.turn.cursor)
	if of.Kind == 1 && reply.Code == 0 && g.live[of.A] >= 0 {
		places = append(places, g.live[of.A])
	}
	for _, place := range places {
		if g.numberAt(place) < 0 {
			continue
		}
		if now.numberAt(place) >= 0 && damageOf(s.chip, place) >= 2 {
			s.fail("the page %d was read damaged, and counts still", place)
		}
		if damageOf(was, place) >= 2 {
			s.turn.moved++
		}
	}
}

// view is the device's.
func (s *scene) view() api.View {
	s.Helper()
	v, err := s.w.View()
	if err != nil {
		s.fail("View(): %v", err)
	}
	return v
}

// hurt turns a bit each of so many bytes of a page's chunk, by a step each; done again it turns them back.
func (s *scene) hurt(place, chunk, many int) {
	s.Helper()
	for i := range many {
		s.must(flipOf(place, chunk, i))
	}
}

// flipOf is a step that turns a bit of a byte of a page's chunk: of each i below 64 it is another byte.
func flipOf(place, chunk, i int) api.Step {
	return step(6, place, 512*chunk+8*((7*i+3)%64)+i%8)
}

// fill writes all sectors.
func (s *scene) fill(turn int) {
	s.Helper()
	for of := range 24 {
		s.must(step(2, of, turn+of))
	}
}

// wantAll reads all sectors.
func (s *scene) wantAll() {
	s.Helper()
	for of := range 24 {
		s.must(step(1, of))
	}
}

// restart gives the power back, and mounts the device.
func (s *scene) restart() {
	s.Helper()
	s.must(step(10))
	s.must(step(4))
}

// again takes the power at the next step of the chip, and mounts the device anew.
func (s *scene) again() {
	s.Helper()
	s.must(step(9, 0))
	s.want(step(2, 0, 0), api.ErrPower)
	s.restart()
}
