package frame_test

import (
	"bytes"
	"math"
	"sync"
	"testing"

	"patina/api"
	"patina/frame"
	"patina/rs"
)

const (
	wordSize    = 64
	messageSize = 58
	dataSize    = 174
	bodySize    = 50
	pageSize    = 256
	tagChunk    = 3
)

// theMark is the mark as the chapter of layer 3 tells it.
func theMark() []byte { return []byte{0x70, 0x61, 0x74, 0x69, 0x6e, 0x61, 0x30, 0x31} }

// ones is n bytes ff.
func ones(n int) []byte { return bytes.Repeat([]byte{0xff}, n) }

// source gives numbers that hang on its start alone.
type source uint64

func (s *source) next(n int) int {
	*s = *s*6364136223846793005 + 1442695040888963407
	return int(uint64(*s) >> 33 % uint64(n))
}

func (s *source) bytes(n int) []byte {
	b := make([]byte, n)
	for i := range b {
		b[i] = byte(s.next(256))
	}
	return b
}

// places are n unlike numbers below many.
func (s *source) places(n, many int) []int {
	taken := make([]bool, many)
	var out []int
	for len(out) < n {
		if i := s.next(many); !taken[i] {
			taken[i] = true
			out = append(out, i)
		}
	}
	return out
}

// harm turns n bytes of one of a page's chunks, each in some way.
func (s *source) harm(page []byte, chunk, n int) {
	for _, i := range s.places(n, wordSize) {
		page[chunk*wordSize+i] ^= byte(1 + s.next(255))
	}
}

// some is a page's data and body, of any bytes.
func (s *source) some() ([]byte, []byte) { return s.bytes(dataSize), s.bytes(bodySize) }

// product is the product of two elements of the field, worked out without tables.
func product(a, b byte) byte {
	var sum byte
	for ; b != 0; b >>= 1 {
		if b&1 == 1 {
			sum ^= a
		}
		high := a & 0x80
		a <<= 1
		if high != 0 {
			a ^= 0x1d
		}
	}
	return sum
}

// isCodeword tells whether the value of a word is 0 at 2^0, .. 2^5.
func isCodeword(word []byte) bool {
	x := byte(1)
	for range 6 {
		sum := byte(0)
		for _, symbol := range word {
			sum = product(sum, x) ^ symbol
		}
		if sum != 0 {
			return false
		}
		x = product(x, 2)
	}
	return len(word) == wordSize
}

// codeword is what layer 2 makes of a message.
func codeword(t *testing.T, message []byte) []byte {
	t.Helper()
	word, err := rs.New().Encode(message)
	if err != nil || !isCodeword(word) {
		t.Fatalf("Encode(% x): % x, %v", message, word, err)
	}
	return word
}

// messages are the four that a page of that data and that body holds, put together without the program.
func messages(data, body []byte) [][]byte {
	return [][]byte{data[:58], data[58:116], data[116:], append(bytes.Clone(body), theMark()...)}
}

// pageOf is a page with such messages, put together without the program.
func pageOf(t *testing.T, of [][]byte) []byte {
	t.Helper()
	var page []byte
	for _, m := range of {
		page = append(page, codeword(t, m)...)
	}
	if len(page) != pageSize {
		t.Fatalf("a page of %d bytes", len(page))
	}
	return page
}

// chunkOf is one of a page's chunks.
func chunkOf(page []byte, chunk int) []byte { return page[chunk*wordSize : (chunk+1)*wordSize] }

// pages are the data and bodies of pages of all kinds: noughts, ff, one byte alone, marks, any.
func pages() (data, bodies [][]byte) {
	first, last := make([]byte, dataSize), make([]byte, dataSize)
	first[0], last[dataSize-1] = 0x80, 1
	data = [][]byte{make([]byte, dataSize), ones(dataSize), first, last, bytes.Repeat(theMark(), 22)[:dataSize]}
	bodies = [][]byte{make([]byte, bodySize), ones(bodySize), first[:bodySize], last[dataSize-bodySize:], bytes.Repeat(theMark(), 7)[:bodySize]}
	s := source(1)
	for range 5 {
		d, b := s.some()
		data, bodies = append(data, d), append(bodies, b)
	}
	return data, bodies
}

// call is one of the calls that tell what a page holds.
type call func(page []byte) ([]byte, int, error)

func wantRead(t *testing.T, what string, ask call, page, want []byte, damage int) {
	t.Helper()
	if got, n, err := ask(page); err != nil || n != damage || !bytes.Equal(got, want) {
		t.Fatalf("%s of % x: % x, %d, %v, want % x, %d", what, page, got, n, err, want, damage)
	}
}

func wantError(t *testing.T, what string, ask call, page []byte, want api.Code) {
	t.Helper()
	if got, n, err := ask(page); got != nil || n != 0 || err != want {
		t.Fatalf("%s of % x: % x, %d, %v, want %v alone", what, page, got, n, err, want)
	}
}

// message is the call that tells the message of a chunk.
func message(f *frame.Frame, chunk int) call {
	return func(page []byte) ([]byte, int, error) { return f.Message(page, chunk) }
}

func lay(t *testing.T, f *frame.Frame, data, body []byte) [][]byte {
	t.Helper()
	chunks, err := f.Lay(data, body)
	if err != nil || len(chunks) != 4 {
		t.Fatalf("Lay(% x, % x): % x, %v", data, body, chunks, err)
	}
	return chunks
}

func wantChunks(t *testing.T, what string, got [][]byte, data, body []byte) {
	t.Helper()
	if want := pageOf(t, messages(data, body)); len(got) != 4 || !bytes.Equal(bytes.Join(got, nil), want) {
		t.Fatalf("%s: % x, want % x", what, got, want)
	}
	for i, chunk := range got {
		if len(chunk) != wordSize {
			t.Fatalf("%s: chunk %d has %d bytes", what, i, len(chunk))
		}
	}
}

// The examples of the chapter's table.

func TestExamplesOfLay(t *testing.T) {
	f := frame.New()
	chunks := lay(t, f, make([]byte, 174), make([]byte, 50))
	for i, chunk := range chunks[:3] {
		if !bytes.Equal(chunk, make([]byte, 64)) {
			t.Errorf("chunk %d: % x", i, chunk)
		}
	}
	last := chunks[3]
	if !bytes.Equal(last[:50], make([]byte, 50)) || string(last[50:58]) != "patina01" || !isCodeword(last) {
		t.Errorf("the tag's chunk: % x", last)
	}
	if got, err := f.Lay(make([]byte, 173), make([]byte, 50)); got != nil || err != api.ErrArg {
		t.Errorf("Lay(173 bytes, 50 bytes): % x, %v", got, err)
	}
}

func TestExamplesOfReading(t *testing.T) {
	f := frame.New()
	noughts, one := make([]byte, 256), make([]byte, 256)
	one[70] = 1
	wantError(t, "Data", f.Data, make([]byte, 255), api.ErrArg)
	wantError(t, "Message of chunk 4", message(f, 4), noughts, api.ErrArg)
	wantError(t, "Body", f.Body, ones(256), api.ErrDecode)
	wantError(t, "Body", f.Body, noughts, api.ErrMark)
	wantRead(t, "Data", f.Data, noughts, make([]byte, 174), 0)
	wantRead(t, "Data", f.Data, one, make([]byte, 174), 1)
}

// P6.1: New is a frame.

func TestFramesAreApart(t *testing.T) {
	f, g := frame.New(), frame.New()
	if f == g {
		t.Fatal("New answered one Frame twice")
	}
	data, bodies := pages()
	for i := range data {
		wantChunks(t, "Lay of one frame", lay(t, f, data[i], bodies[i]), data[i], bodies[i])
		wantChunks(t, "Lay of another frame", lay(t, g, data[i], bodies[i]), data[i], bodies[i])
	}
}

// ask asks a frame with every call, and tells how many answers were wrong.
func ask(f *frame.Frame, seed int) int {
	s := source(seed)
	data, body := s.some()
	wrong := 0
	count := func(ok bool) {
		if !ok {
			wrong++
		}
	}
	chunks, err := f.Lay(data, body)
	count(err == nil && len(chunks) == 4)
	for damage := range 5 {
		page := bytes.Join(chunks, nil)
		s.harm(page, s.next(3), damage)
		s.harm(page, tagChunk, damage)
		gotData, n, err := f.Data(page)
		gotBody, m, bodyErr := f.Body(page)
		part, k, partErr := f.Message(page, tagChunk)
		if damage <= 2 {
			count(err == nil && n == damage && bytes.Equal(gotData, data))
			count(bodyErr == nil && m == damage && bytes.Equal(gotBody, body))
			count(partErr == nil && k == damage && bytes.Equal(part, messages(data, body)[tagChunk]))
		} else {
			count(err == api.ErrDecode && bodyErr == api.ErrDecode && partErr == api.ErrDecode)
		}
	}
	_, err = f.Lay(data[1:], body)
	count(err == api.ErrArg)
	return wrong
}

// Several goroutines ask a frame that nobody asked before, all at one time.
func TestSeveralGoroutines(t *testing.T) {
	const rounds, workers = 20, 8
	var wrong [workers]int
	for round := range rounds {
		f := frame.New()
		start := make(chan struct{})
		var group sync.WaitGroup
		for w := range workers {
			group.Add(1)
			go func() {
				defer group.Done()
				<-start
				wrong[w] += ask(f, round*workers+w)
			}()
		}
		close(start)
		group.Wait()
	}
	if wrong != [workers]int{} {
		t.Errorf("wrong answers of each goroutine: %v", wrong)
	}
}

// Several goroutines read one and the same page.
func TestSeveralGoroutinesOnOnePage(t *testing.T) {
	f := frame.New()
	s := source(2)
	data, body := s.some()
	page := pageOf(t, messages(data, body))
	s.harm(page, 1, 2)
	s.harm(page, tagChunk, 1)
	var wrong [8]int
	var group sync.WaitGroup
	for w := range wrong {
		group.Add(1)
		go func() {
			defer group.Done()
			for range 50 {
				gotData, n, err := f.Data(page)
				gotBody, m, bodyErr := f.Body(page)
				if err != nil || n != 2 || !bytes.Equal(gotData, data) || bodyErr != nil || m != 1 || !bytes.Equal(gotBody, body) {
					wrong[w]++
				}
			}
		}()
	}
	group.Wait()
	if wrong != [8]int{} {
		t.Errorf("wrong answers of each goroutine: %v", wrong)
	}
}

// P6.2: Lay.

func TestLayIsTheCodewordsInOrder(t *testing.T) {
	f := frame.New()
	data, bodies := pages()
	for i := range data {
		for k := range bodies {
			chunks := lay(t, f, data[i], bodies[k])
			wantChunks(t, "Lay", chunks, data[i], bodies[k])
			for c, want := range messages(data[i], bodies[k]) {
				if !isCodeword(chunks[c]) || !bytes.Equal(chunks[c][:messageSize], want) {
					t.Fatalf("chunk %d of Lay: % x, want the codeword of % x", c, chunks[c], want)
				}
			}
		}
	}
}

// Each byte of the data, and of the body, shows in its own chunk alone.
func TestLayOfEachByteAlone(t *testing.T) {
	f := frame.New()
	s := source(3)
	data, body := s.some()
	plain := lay(t, f, data, body)
	for i := range dataSize + bodySize {
		d, b := bytes.Clone(data), bytes.Clone(body)
		if i < dataSize {
			d[i] ^= 0x11
		} else {
			b[i-dataSize] ^= 0x11
		}
		for c, chunk := range lay(t, f, d, b) {
			if same := bytes.Equal(chunk, plain[c]); same == (c == i/messageSize) {
				t.Fatalf("with byte %d turned: is chunk %d as it was? %v", i, c, same)
			}
		}
	}
}

func TestLayOfOtherSizes(t *testing.T) {
	f := frame.New()
	s := source(4)
	data := [][]byte{nil, {}}
	for _, n := range []int{1, 50, 58, 116, 160, 172, 173, 174, 175, 176, 182, 192, 224, 232, 256, 1 << 16} {
		data = append(data, s.bytes(n))
	}
	bodies := [][]byte{nil, {}}
	for _, n := range []int{1, 42, 48, 49, 50, 51, 52, 58, 64, 174, 256, 1 << 16} {
		bodies = append(bodies, s.bytes(n))
	}
	for _, d := range data {
		for _, b := range bodies {
			got, err := f.Lay(d, b)
			if len(d) == 174 && len(b) == 50 {
				wantChunks(t, "Lay of 174 and 50 bytes", got, d, b)
			} else if got != nil || err != api.ErrArg {
				t.Errorf("Lay of %d and %d bytes: % x, %v", len(d), len(b), got, err)
			}
		}
	}
}

// A slice counts as many bytes as it has, whatever room stands behind it.
func TestSizesAreNotRoom(t *testing.T) {
	f := frame.New()
	s := source(5)
	room := s.bytes(512)
	if got, err := f.Lay(room[:173], room[:50]); got != nil || err != api.ErrArg {
		t.Errorf("Lay of 173 bytes with room: % x, %v", got, err)
	}
	if got, err := f.Lay(room[:174], room[:49]); got != nil || err != api.ErrArg {
		t.Errorf("Lay of a body of 49 bytes with room: % x, %v", got, err)
	}
	wantChunks(t, "Lay with room", lay(t, f, room[:174], room[:50]), room[:174], room[:50])
	data, body := s.some()
	copy(room, pageOf(t, messages(data, body)))
	wantError(t, "Data with room", f.Data, room[:255], api.ErrArg)
	wantError(t, "Body with room", f.Body, room[:255], api.ErrArg)
	wantError(t, "Message with room", message(f, 0), room[:255], api.ErrArg)
	wantRead(t, "Data with room", f.Data, room[:256], data, 0)
	wantRead(t, "Body with room", f.Body, room[:256], body, 0)
}

// P6.3: Message.

// wantAsLayer2 holds Message of each chunk of a page against what layer 2 answers of it.
func wantAsLayer2(t *testing.T, f *frame.Frame, page []byte) {
	t.Helper()
	c := rs.New()
	for chunk := range 4 {
		want, damage, err := c.Decode(chunkOf(page, chunk))
		if err == nil {
			wantRead(t, "Message", message(f, chunk), page, want, damage)
		} else {
			wantError(t, "Message", message(f, chunk), page, err.(api.Code))
		}
	}
}

func TestMessageIsWhatLayer2Answers(t *testing.T) {
	f := frame.New()
	data, bodies := pages()
	s := source(6)
	for i := range data {
		page := pageOf(t, messages(data[i], bodies[i]))
		for chunk, want := range messages(data[i], bodies[i]) {
			wantRead(t, "Message", message(f, chunk), page, want, 0)
			for damage := range 5 {
				turned := bytes.Clone(page)
				s.harm(turned, chunk, damage)
				wantAsLayer2(t, f, turned)
				if damage <= 2 {
					wantRead(t, "Message", message(f, chunk), turned, want, damage)
				} else {
					wantError(t, "Message", message(f, chunk), turned, api.ErrDecode)
				}
			}
		}
	}
	for range 50 {
		wantAsLayer2(t, f, s.bytes(pageSize))
	}
	wantAsLayer2(t, f, ones(pageSize))
	wantAsLayer2(t, f, make([]byte, pageSize))
}

// All four chunks are damaged, each in its own way: each tells its own.
func TestMessageLooksAtItsOwnChunk(t *testing.T) {
	f := frame.New()
	s := source(7)
	for _, damage := range [][4]int{{0, 1, 2, 3}, {3, 0, 1, 2}, {2, 3, 0, 1}, {1, 2, 3, 0}, {4, 4, 4, 0}, {0, 4, 4, 4}, {4, 1, 2, 4}} {
		data, body := s.some()
		page := pageOf(t, messages(data, body))
		for chunk, n := range damage {
			s.harm(page, chunk, n)
		}
		for chunk, want := range messages(data, body) {
			if damage[chunk] <= 2 {
				wantRead(t, "Message", message(f, chunk), page, want, damage[chunk])
			} else {
				wantError(t, "Message", message(f, chunk), page, api.ErrDecode)
			}
		}
	}
}

// noChunks are numbers of no chunk, such among them as would wrap round to one, 64 times over.
func noChunks() []int {
	return []int{-1, -2, -4, -64, -256, 4, 5, 8, 64, 255, 256, 1 << 32, 1<<32 + 1, 1 << 58, 1<<58 + 1, -1 << 58, 1 << 62, math.MinInt, math.MinInt + 1, math.MaxInt, math.MaxInt - 1}
}

func TestMessageOfNoChunk(t *testing.T) {
	f := frame.New()
	s := source(8)
	data, body := s.some()
	for _, page := range [][]byte{pageOf(t, messages(data, body)), ones(pageSize), make([]byte, pageSize), s.bytes(pageSize)} {
		for _, chunk := range noChunks() {
			wantError(t, "Message of no chunk", message(f, chunk), page, api.ErrArg)
		}
	}
}

// noPages are such as have not 256 bytes: cut off and grown ones, whose chunks could be read or not.
func noPages(t *testing.T) [][]byte {
	t.Helper()
	s := source(9)
	data, body := s.some()
	whole := pageOf(t, messages(data, body))
	out := [][]byte{nil, {}, append(bytes.Clone(whole), whole...), append([]byte{0}, whole...)}
	for _, n := range []int{1, 58, 63, 64, 65, 128, 174, 191, 192, 193, 232, 254, 255} {
		out = append(out, bytes.Clone(whole[:n]), bytes.Clone(whole[pageSize-n:]), make([]byte, n), ones(n), s.bytes(n))
	}
	for _, n := range []int{257, 258, 319, 320, 512, 1 << 16} {
		out = append(out, append(bytes.Clone(whole), make([]byte, n-pageSize)...), make([]byte, n), ones(n), s.bytes(n))
	}
	return out
}

func TestPagesOfOtherSizes(t *testing.T) {
	f := frame.New()
	for _, page := range noPages(t) {
		wantError(t, "Data", f.Data, page, api.ErrArg)
		wantError(t, "Body", f.Body, page, api.ErrArg)
		for chunk := range 4 {
			wantError(t, "Message", message(f, chunk), page, api.ErrArg)
		}
		for _, chunk := range noChunks() {
			wantError(t, "Message of no chunk", message(f, chunk), page, api.ErrArg)
		}
	}
}

// P6.4: Data.

// The greatest number of damaged symbols is told, wherever it stands.
func TestDataTellsTheMostDamage(t *testing.T) {
	f := frame.New()
	s := source(10)
	for n := range 27 {
		damage := [3]int{n % 3, n / 3 % 3, n / 9}
		most := 0
		for _, d := range damage {
			if d > most {
				most = d
			}
		}
		for range 5 {
			data, body := s.some()
			page := pageOf(t, messages(data, body))
			for chunk, d := range damage {
				s.harm(page, chunk, d)
			}
			wantRead(t, "Data", f.Data, page, data, most)
		}
	}
}

// Any of the three that can't be put right is enough, however the others stand.
func TestDataWithChunksThatCannotBePutRight(t *testing.T) {
	f := frame.New()
	s := source(11)
	for n := range 125 {
		damage := [3]int{n % 5, n / 5 % 5, n / 25}
		data, body := s.some()
		page := pageOf(t, messages(data, body))
		lost := false
		for chunk, d := range damage {
			s.harm(page, chunk, d)
			lost = lost || d > 2
		}
		if lost {
			wantError(t, "Data", f.Data, page, api.ErrDecode)
		} else if got, _, err := f.Data(page); err != nil || !bytes.Equal(got, data) {
			t.Fatalf("Data with %v turned: % x, %v", damage, got, err)
		}
	}
	for chunk := range 3 {
		data, body := s.some()
		page := pageOf(t, messages(data, body))
		copy(chunkOf(page, chunk), ones(wordSize))
		wantError(t, "Data with a chunk of ff", f.Data, page, api.ErrDecode)
	}
}

// tagChunks are such as the tag's may be: damaged, blank, without the mark, any.
func tagChunks(t *testing.T, s *source) [][]byte {
	t.Helper()
	_, body := s.some()
	out := [][]byte{ones(wordSize), make([]byte, wordSize), s.bytes(wordSize), codeword(t, s.bytes(messageSize))}
	for damage := range 5 {
		page := pageOf(t, messages(make([]byte, dataSize), body))
		s.harm(page, tagChunk, damage)
		out = append(out, chunkOf(page, tagChunk))
	}
	return out
}

func TestDataDoesNotLookAtTheTag(t *testing.T) {
	f := frame.New()
	s := source(12)
	for damage := range 5 {
		for _, tag := range tagChunks(t, &s) {
			data, body := s.some()
			page := pageOf(t, messages(data, body))
			s.harm(page, s.next(3), damage)
			copy(chunkOf(page, tagChunk), tag)
			if damage <= 2 {
				wantRead(t, "Data", f.Data, page, data, damage)
			} else {
				wantError(t, "Data", f.Data, page, api.ErrDecode)
			}
		}
	}
}

// P6.5: Body.

func TestBodyTellsItsDamage(t *testing.T) {
	f := frame.New()
	data, bodies := pages()
	s := source(13)
	for i := range bodies {
		for damage := range 5 {
			page := pageOf(t, messages(data[i], bodies[i]))
			s.harm(page, tagChunk, damage)
			if damage <= 2 {
				wantRead(t, "Body", f.Body, page, bodies[i], damage)
			} else {
				wantError(t, "Body", f.Body, page, api.ErrDecode)
			}
		}
	}
}

func TestBodyDoesNotLookAtTheOthers(t *testing.T) {
	f := frame.New()
	s := source(14)
	for damage := range 3 {
		for _, other := range [][]byte{ones(192), make([]byte, 192), s.bytes(192)} {
			data, body := s.some()
			page := pageOf(t, messages(data, body))
			s.harm(page, tagChunk, damage)
			copy(page, other)
			wantRead(t, "Body", f.Body, page, body, damage)
		}
		for chunk := range 3 {
			data, body := s.some()
			page := pageOf(t, messages(data, body))
			s.harm(page, tagChunk, damage)
			s.harm(page, chunk, 4)
			wantRead(t, "Body", f.Body, page, body, damage)
		}
	}
}

// Each byte of the mark wrong in turn: a codeword still, but no tag's, put right or not.
func TestBodyWithoutTheMark(t *testing.T) {
	f := frame.New()
	s := source(15)
	for i := range 8 {
		for _, turn := range []byte{1, 0x80, 0xff, theMark()[i]} {
			data, body := s.some()
			all := messages(data, body)
			all[tagChunk][bodySize+i] ^= turn
			for damage := range 3 {
				page := pageOf(t, all)
				s.harm(page, tagChunk, damage)
				wantError(t, "Body", f.Body, page, api.ErrMark)
				wantRead(t, "Message", message(f, tagChunk), page, all[tagChunk], damage)
			}
		}
	}
	wantError(t, "Body of ff", f.Body, ones(pageSize), api.ErrDecode)
	wantError(t, "Body of noughts", f.Body, make([]byte, pageSize), api.ErrMark)
}

// It is the message that bears the mark or not, once put right, whatever stands there now.
func TestMarkIsLookedForInWhatWasPutRight(t *testing.T) {
	f := frame.New()
	s := source(16)
	for i := range 8 {
		data, body := s.some()
		page := pageOf(t, messages(data, body))
		page[tagChunk*wordSize+bodySize+i] ^= byte(1 + s.next(255))
		wantRead(t, "Body with the mark damaged", f.Body, page, body, 1)
		all := messages(data, body)
		all[tagChunk][bodySize+i] ^= 1
		page = pageOf(t, all)
		copy(page[tagChunk*wordSize+bodySize:], theMark())
		wantError(t, "Body with damage that makes the mark", f.Body, page, api.ErrMark)
	}
}

// Where it can't be put right and no mark is to be seen either, that it can't be put right is told.
func TestDecodeIsToldAheadOfTheMark(t *testing.T) {
	f := frame.New()
	s := source(17)
	for damage := 3; damage <= 4; damage++ {
		for range 20 {
			data, body := s.some()
			all := messages(data, body)
			all[tagChunk][bodySize+s.next(8)] ^= 0x40
			page := pageOf(t, all)
			s.harm(page, tagChunk, damage)
			wantError(t, "Body", f.Body, page, api.ErrDecode)
		}
	}
}

// A page whose every chunk is a tag's: the last one is its tag.
func TestTheTagIsTheLastChunk(t *testing.T) {
	f := frame.New()
	s := source(18)
	var all [][]byte
	for range 4 {
		_, body := s.some()
		all = append(all, append(body, theMark()...))
	}
	page := pageOf(t, all)
	wantRead(t, "Body", f.Body, page, all[tagChunk][:bodySize], 0)
	wantRead(t, "Data", f.Data, page, bytes.Join(all[:3], nil), 0)
	all[tagChunk][bodySize] ^= 1
	wantError(t, "Body", f.Body, pageOf(t, all), api.ErrMark)
}
