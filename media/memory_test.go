package media_test

import (
	"bytes"
	"testing"

	"patina/api"
	"patina/media"
	"patina/nand"
)

// R3 and R4: what is handed in stays as it is and is not kept, what is answered is its owner's.

// spoil grows an answer, and writes over all of it, spare room too.
func spoil(b []byte) {
	grown := append(b, bytes.Repeat([]byte{0x5a}, 200)...)
	for i := len(b); i < len(grown); i++ {
		grown[i] ^= 0x33
	}
	b = b[:cap(b)]
	for i := range b {
		b[i] ^= 0xa5
	}
}

// within is a room with others' bytes ahead of b and behind it, and b in it.
func within(s *source, b []byte) (room, part []byte) {
	room = s.bytes(len(b) + 400)
	copy(room[200:], b)
	return room, room[200 : 200+len(b)]
}

// However Program ends, its data are as they were, and what stands beside them.
func TestProgramLeavesItsData(t *testing.T) {
	s := source(70)
	for name, c := range grounds(t) {
		m := media.New(c)
		for _, size := range []int{0, 100, 173, 174, 175, 300} {
			room, data := within(&s, s.bytes(size))
			before := bytes.Clone(room)
			for _, at := range []int{20, 21, 96} {
				m.Program(at, api.Tag{Place: at, Of: 11, Seq: 99}, data)
			}
			if !bytes.Equal(room, before) {
				t.Errorf("%s: Program changed %d bytes that it was handed, or what stands beside them", name, size)
			}
		}
	}
}

func TestProgramKeepsNoData(t *testing.T) {
	s := source(71)
	for at := range all {
		c := nand.New()
		m := media.New(c)
		data, g := s.data(), s.tag(at)
		handed := bytes.Clone(data)
		wantProgram(t, m, at, g, handed, nil)
		before := see(t, c)
		spoil(handed)
		wantSight(t, "data that are written over", c, before)
		wantRead(t, m, at, whole(g, data, 0))
	}
}

// What lies behind the data, in their own room, is not looked at.
func TestProgramOfDataWithOthersBehindThem(t *testing.T) {
	s := source(72)
	c := nand.New()
	m := media.New(c)
	for at := range all {
		data, g := s.data(), s.tag(at)
		_, part := within(&s, data)
		if at%2 == 0 {
			part = part[:len(part):len(part)]
		}
		wantProgram(t, m, at, g, part, nil)
		wantRead(t, m, at, whole(g, data, 0))
	}
}

// What Read answered may be handed to Program, which is how pages are moved.
func TestProgramOfWhatWasRead(t *testing.T) {
	s := source(73)
	c := nand.New()
	m := media.New(c)
	data, g := s.data(), api.Tag{Place: 0, Of: 3, Seq: 8}
	wantProgram(t, m, 0, g, data, nil)
	page, err := m.Read(0)
	must(t, err)
	g.Place, g.Copy = 8, 1
	wantProgram(t, m, 8, g, page.Data, nil)
	spoil(page.Data)
	wantRead(t, m, 8, whole(g, data, 0))
	wantRead(t, m, 0, whole(api.Tag{Of: 3, Seq: 8}, data, 0))
}

// An answer that is written over and grown changes neither the chip nor another answer.
func TestReadAnswersNewMemory(t *testing.T) {
	s := source(74)
	c, m, want := programmed(t, &s)
	for at := range all {
		s.harm(t, c, at, at%chunks, 2)
		want[at].Damage = 2
	}
	for at := range all {
		first, err := m.Read(at)
		must(t, err)
		second, err := m.Read(at)
		must(t, err)
		other, err := media.New(c).Read(at)
		must(t, err)
		before := see(t, c)
		spoil(first.Data)
		if !samePage(second, want[at]) || !samePage(other, want[at]) {
			t.Fatalf("Read(%d): two answers share memory", at)
		}
		wantSight(t, "an answer that is written over", c, before)
		wantRead(t, m, at, want[at])
	}
}

// Grown side by side, two answers don't meet.
func TestReadAnswersGrown(t *testing.T) {
	s := source(75)
	_, m, want := programmed(t, &s)
	first, err := m.Read(10)
	must(t, err)
	second, err := m.Read(10)
	must(t, err)
	left, right := append(first.Data, 1), append(second.Data, 2)
	if left[dataSize] != 1 || right[dataSize] != 2 || !bytes.Equal(left[:dataSize], right[:dataSize]) {
		t.Error("two answers that were grown meet")
	}
	wantRead(t, m, 10, want[10])
}

// What was read stays as it was read, whatever becomes of the page.
func TestAnswersStayBehindAnErase(t *testing.T) {
	s := source(76)
	c, m, want := programmed(t, &s)
	var got [all]api.Page
	for at := range all {
		page, err := m.Read(at)
		must(t, err)
		got[at] = page
	}
	for at := range all {
		s.harm(t, c, at, at%chunks, 9)
	}
	for b := range blocks {
		wantErase(t, m, b, nil)
		wantProgram(t, m, b*pages, s.tag(b*pages), s.data(), nil)
	}
	for at := range all {
		if !samePage(got[at], want[at]) {
			t.Errorf("what Read(%d) answered changed: %+v, want %+v", at, got[at], want[at])
		}
	}
}
