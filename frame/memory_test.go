package frame_test

import (
	"bytes"
	"testing"

	"patina/frame"
)

// R2 to R4: what is handed in stays as it is, what is answered is its owner's, nothing is kept.

// spoil grows an answer, and writes over all of it, spare room too.
func spoil(b []byte) {
	grown := append(b, 0x5a, 0xa5, 0x5a, 0xa5, 0x5a, 0xa5, 0x5a, 0xa5)
	for i := len(b); i < len(grown); i++ {
		grown[i] ^= 0x33
	}
	b = b[:cap(b)]
	for i := range b {
		b[i] ^= 0xa5
	}
}

// spoilChunks does the same to what Lay answered, the list and its chunks.
func spoilChunks(chunks [][]byte) {
	for _, chunk := range chunks {
		spoil(chunk)
	}
	chunks = chunks[:cap(chunks)]
	for i := range chunks {
		chunks[i] = nil
	}
}

// within is a room of n more bytes than b has, half of them ahead, and b in it: what is handed in has others' bytes behind it.
func within(s *source, b []byte, n int) (room, part []byte) {
	room = s.bytes(len(b) + n)
	from := n / 2
	copy(room[from:], b)
	return room, room[from : from+len(b)]
}

// read asks all that reads a page, and spoils what it answers.
func read(f *frame.Frame, page []byte) {
	for _, ask := range []call{f.Data, f.Body, message(f, -1), message(f, 0), message(f, 1), message(f, 2), message(f, 3), message(f, 4)} {
		b, _, _ := ask(page)
		spoil(b)
	}
}

func TestLayLeavesItsArguments(t *testing.T) {
	f := frame.New()
	s := source(30)
	for _, size := range []int{0, 173, 174, 175} {
		for _, bodySize := range []int{0, 49, 50, 51} {
			dataRoom, data := within(&s, s.bytes(size), 200)
			bodyRoom, body := within(&s, s.bytes(bodySize), 200)
			dataBefore, bodyBefore := bytes.Clone(dataRoom), bytes.Clone(bodyRoom)
			chunks, _ := f.Lay(data, body)
			spoilChunks(chunks)
			if !bytes.Equal(dataRoom, dataBefore) || !bytes.Equal(bodyRoom, bodyBefore) {
				t.Fatalf("Lay of %d and %d bytes changed or kept its arguments, or what stands behind them", size, bodySize)
			}
		}
	}
}

// Data and body in one room, the one right behind the other, or one within the other.
func TestLayOfArgumentsThatMeet(t *testing.T) {
	f := frame.New()
	s := source(31)
	room := s.bytes(dataSize + bodySize)
	before := bytes.Clone(room)
	cases := [][2][]byte{{room[:dataSize], room[dataSize:]}, {room[bodySize:], room[:bodySize]}, {room[:dataSize], room[20 : 20+bodySize]}}
	for _, c := range cases {
		data, body := bytes.Clone(c[0]), bytes.Clone(c[1])
		chunks := lay(t, f, c[0], c[1])
		wantChunks(t, "Lay", chunks, data, body)
		spoilChunks(chunks)
		if !bytes.Equal(room, before) {
			t.Fatal("Lay changed or kept its arguments")
		}
	}
}

func TestReadingLeavesThePage(t *testing.T) {
	f := frame.New()
	s := source(32)
	for damage := range 5 {
		data, body := s.some()
		page := pageOf(t, messages(data, body))
		for chunk := range 4 {
			s.harm(page, chunk, damage)
		}
		room, part := within(&s, page, 200)
		before := bytes.Clone(room)
		read(f, part)
		if !bytes.Equal(room, before) {
			t.Fatalf("a page with %d bytes turned was changed or kept, or what stands behind it", damage)
		}
	}
	for _, page := range noPages(t) {
		before := bytes.Clone(page)
		read(f, page)
		if !bytes.Equal(page, before) {
			t.Fatalf("what is no page, of %d bytes, was changed", len(page))
		}
	}
}

// A change of what was handed in doesn't show in what was answered, nor in what is answered next.
func TestArgumentsAreNotKept(t *testing.T) {
	f := frame.New()
	s := source(33)
	data, body := s.some()
	handedData, handedBody := bytes.Clone(data), bytes.Clone(body)
	chunks := lay(t, f, handedData, handedBody)
	spoil(handedData)
	spoil(handedBody)
	wantChunks(t, "what Lay answered", chunks, data, body)
	page := bytes.Join(chunks, nil)
	handed := bytes.Clone(page)
	gotData, _, _ := f.Data(handed)
	gotBody, _, _ := f.Body(handed)
	var parts [][]byte
	for chunk := range 4 {
		part, _, _ := f.Message(handed, chunk)
		parts = append(parts, part)
	}
	spoil(handed)
	if !bytes.Equal(gotData, data) || !bytes.Equal(gotBody, body) {
		t.Errorf("what Data and Body answered changed with the page: % x, % x", gotData, gotBody)
	}
	if !bytes.Equal(bytes.Join(parts, nil), bytes.Join(messages(data, body), nil)) {
		t.Errorf("what Message answered changed with the page: % x", parts)
	}
	wantPage(t, f, page, data, body, [4]int{})
}

// What is answered twice is answered in memory of its own each time.
func TestAnswersAreTheirOwners(t *testing.T) {
	f := frame.New()
	s := source(34)
	data, body := s.some()
	first, second := lay(t, f, data, body), lay(t, f, data, body)
	spoilChunks(first)
	wantChunks(t, "another answer of Lay", second, data, body)
	wantChunks(t, "the next answer of Lay", lay(t, f, data, body), data, body)
	page := bytes.Join(second, nil)
	for _, ask := range []call{f.Data, f.Body, message(f, 0), message(f, 1), message(f, 2), message(f, 3)} {
		one, _, _ := ask(page)
		two, _, _ := ask(page)
		want := bytes.Clone(two)
		spoil(one)
		if len(two) == 0 || !bytes.Equal(two, want) {
			t.Errorf("another answer changed: % x, want % x", two, want)
		}
		wantRead(t, "the next answer", ask, page, want, 0)
	}
}

// The chunks of one answer don't meet, not even when one of them is grown.
func TestChunksOfOneAnswerAreApart(t *testing.T) {
	f := frame.New()
	s := source(35)
	for spoilt := range 4 {
		data, body := s.some()
		chunks := lay(t, f, data, body)
		spoil(chunks[spoilt])
		page := pageOf(t, messages(data, body))
		for i, chunk := range chunks {
			if same := bytes.Equal(chunk, chunkOf(page, i)); same == (i == spoilt) {
				t.Errorf("chunk %d was spoilt: is chunk %d as it was? %v", spoilt, i, same)
			}
		}
	}
}

// Grown twice side by side, an answer doesn't come upon others' memory.
func TestAnswersGrown(t *testing.T) {
	f := frame.New()
	s := source(36)
	data, body := s.some()
	page := pageOf(t, messages(data, body))
	for _, ask := range []call{f.Data, f.Body, message(f, 0), message(f, 3)} {
		one, _, _ := ask(page)
		two, _, _ := ask(page)
		left, right := append(one, 1), append(two, 2)
		if left[len(one)] != 1 || right[len(two)] != 2 || !bytes.Equal(page, pageOf(t, messages(data, body))) {
			t.Error("an answer that was grown came upon another one's memory")
		}
	}
	for c, chunk := range lay(t, f, data, body) {
		if grown := append(chunk, 7); !bytes.Equal(grown[:wordSize], chunkOf(page, c)) {
			t.Errorf("chunk %d, grown: % x", c, grown)
		}
	}
}

// R2 and R4: an error leaves no trace, and no answer hangs on what was asked ahead of it.
func TestNothingIsKept(t *testing.T) {
	f := frame.New()
	s := source(37)
	for range 20 {
		data, body := s.some()
		page := pageOf(t, messages(data, body))
		damage := [4]int{s.next(5), s.next(5), s.next(5), s.next(5)}
		for chunk, d := range damage {
			s.harm(page, chunk, d)
		}
		f.Lay(s.bytes(s.next(300)), s.bytes(s.next(100)))
		read(f, s.bytes(s.next(300)))
		read(f, s.bytes(pageSize))
		read(f, ones(pageSize))
		for range 2 {
			wantPage(t, f, page, data, body, damage)
			wantPage(t, frame.New(), page, data, body, damage)
			wantChunks(t, "Lay", lay(t, f, data, body), data, body)
		}
	}
}
