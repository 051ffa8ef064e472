package wire_test

import (
	"bytes"
	"math"
	"testing"

	"patina/api"
	"patina/wire"
)

const (
	bodySize = 50
	sealed   = 58
)

// theMark is the mark as the chapter tells it.
func theMark() []byte { return []byte{0x70, 0x61, 0x74, 0x69, 0x6e, 0x61, 0x30, 0x31} }

// mixed is n bytes that hang on n and on a seed alone, all kinds of bytes among them.
func mixed(n, seed int) []byte {
	b := make([]byte, n)
	s := uint32(seed)*2654435761 + uint32(n)
	for i := range b {
		s = s*1664525 + 1013904223
		b[i] = byte(s >> 24)
	}
	return b
}

// ones is n bytes ff.
func ones(n int) []byte { return bytes.Repeat([]byte{0xff}, n) }

// bodies are some of all kinds: noughts, all ones, one byte alone, marks, mixed ones.
func bodies() [][]byte {
	first, last := make([]byte, bodySize), make([]byte, bodySize)
	first[0], last[bodySize-1] = 0x80, 1
	marks := bytes.Repeat(theMark(), 7)[:bodySize]
	out := [][]byte{make([]byte, bodySize), ones(bodySize), first, last, marks}
	for seed := range 20 {
		out = append(out, mixed(bodySize, seed))
	}
	return out
}

// withMark is a body and the mark behind it, built without the program.
func withMark(body []byte) []byte {
	out := make([]byte, 0, sealed)
	for _, b := range body {
		out = append(out, b)
	}
	return append(out, theMark()...)
}

// greatest is the greatest number that has room in so many bytes, digit by digit.
func greatest(size int) uint64 {
	v := uint64(0)
	for range size {
		v = v*256 + 255
	}
	return v
}

// numbers are some that have room in so many bytes: the ends, each byte alone, all bytes unlike.
func numbers(size int) []uint64 {
	out := []uint64{0, 1, greatest(size) / 2, greatest(size) - 1, greatest(size)}
	scale, unlike := uint64(1), uint64(0)
	for i := range size {
		out = append(out, scale, 0x80*scale, 0xff*scale)
		unlike += uint64(0xa1+i) * scale
		scale *= 256
	}
	return append(out, unlike)
}

// worth is the number that some bytes are, by sums and products.
func worth(b []byte) uint64 {
	sum, scale := uint64(0), uint64(1)
	for _, digit := range b {
		sum += uint64(digit) * scale
		scale *= 256
	}
	return sum
}

func wantBytes(t *testing.T, what string, got []byte, err error, want []byte) {
	t.Helper()
	if err != nil || !bytes.Equal(got, want) {
		t.Errorf("%s: % x, %v, want % x", what, got, err, want)
	}
}

func wantError(t *testing.T, what string, got []byte, err error, want api.Code) {
	t.Helper()
	if len(got) != 0 || err != want {
		t.Errorf("%s: % x, %v, want %v alone", what, got, err, want)
	}
}

func wantNumber(t *testing.T, what string, got uint64, err error, want uint64) {
	t.Helper()
	if err != nil || got != want {
		t.Errorf("%s: %d, %v, want %d", what, got, err, want)
	}
}

func put(t *testing.T, v uint64, size int) []byte {
	t.Helper()
	b, err := wire.Put(v, size)
	if err != nil || len(b) != size {
		t.Fatalf("Put(%d, %d): % x, %v", v, size, b, err)
	}
	return b
}

func seal(t *testing.T, body []byte) []byte {
	t.Helper()
	message, err := wire.Seal(body)
	if err != nil || len(message) != sealed {
		t.Fatalf("Seal(% x): % x, %v", body, message, err)
	}
	return message
}

func open(t *testing.T, message []byte) []byte {
	t.Helper()
	body, err := wire.Open(message)
	if err != nil || len(body) != bodySize {
		t.Fatalf("Open(% x): % x, %v", message, body, err)
	}
	return body
}

func wantApart(t *testing.T, a, b []byte, want int) {
	t.Helper()
	if got, err := wire.Apart(a, b); got != want || err != nil {
		t.Errorf("Apart(% x, % x): %d, %v, want %d", a, b, got, err, want)
	}
	if got, err := wire.Apart(b, a); got != want || err != nil {
		t.Errorf("Apart(% x, % x): %d, %v, want %d", b, a, got, err, want)
	}
}

// The examples of the chapter's table.

func TestExamplesOfNumbers(t *testing.T) {
	b, err := wire.Put(258, 3)
	wantBytes(t, "Put(258, 3)", b, err, []byte{2, 1, 0})
	b, err = wire.Put(256, 1)
	wantError(t, "Put(256, 1)", b, err, api.ErrLong)
	b, err = wire.Put(0, 9)
	wantError(t, "Put(0, 9)", b, err, api.ErrArg)
	b, err = wire.Put(5, 0)
	wantError(t, "Put(5, 0)", b, err, api.ErrArg)
	v, err := wire.Get([]byte{2, 1, 0})
	wantNumber(t, "Get(02 01 00)", v, err, 258)
	for _, b := range [][]byte{nil, make([]byte, 9)} {
		if v, err := wire.Get(b); v != 0 || err != api.ErrArg {
			t.Errorf("Get of %d bytes: %d, %v", len(b), v, err)
		}
	}
}

func TestExamplesOfMessages(t *testing.T) {
	b, err := wire.Open(append(make([]byte, bodySize), theMark()...))
	wantBytes(t, "Open(50 noughts and the mark)", b, err, make([]byte, bodySize))
	b, err = wire.Open(make([]byte, sealed))
	wantError(t, "Open(58 noughts)", b, err, api.ErrMark)
	b, err = wire.Open(make([]byte, sealed-1))
	wantError(t, "Open(57 bytes)", b, err, api.ErrArg)
}

func TestExamplesOfApart(t *testing.T) {
	wantApart(t, []byte{1, 2, 3}, []byte{1, 5, 4}, 2)
	wantApart(t, nil, nil, 0)
	if n, err := wire.Apart([]byte{1}, nil); n != 0 || err != api.ErrArg {
		t.Errorf("Apart(1, none): %d, %v", n, err)
	}
}

// P3.1: numbers as bytes.

func TestPutLaysTheLowestFirst(t *testing.T) {
	b, err := wire.Put(0x0102030405060708, 8)
	wantBytes(t, "Put of 8 unlike bytes", b, err, []byte{8, 7, 6, 5, 4, 3, 2, 1})
	for size := 1; size <= 8; size++ {
		for _, v := range numbers(size) {
			want := make([]byte, size)
			rest := v
			for i := range want {
				want[i] = byte(rest % 256)
				rest /= 256
			}
			b, err := wire.Put(v, size)
			wantBytes(t, "Put", b, err, want)
		}
	}
}

func TestPutAtTheEdgeOfTheRoom(t *testing.T) {
	for size := 1; size <= 8; size++ {
		b, err := wire.Put(greatest(size), size)
		wantBytes(t, "Put of the greatest number", b, err, ones(size))
		if size == 8 {
			break // every number has room
		}
		for _, v := range []uint64{greatest(size) + 1, 2*greatest(size) + 1, math.MaxUint64, 1 << 63} {
			b, err = wire.Put(v, size)
			wantError(t, "Put of a number without room", b, err, api.ErrLong)
		}
		b, err = wire.Put(greatest(size)+1, size+1)
		wantBytes(t, "Put of that number with room", b, err, append(make([]byte, size), 1))
	}
}

// Sizes that eight times over would wrap round to such as may be are among them.
func TestPutOfSizesThatMayNotBe(t *testing.T) {
	sizes := []int{0, 9, 10, 64, 255, 256, 257, 1 << 32, 1<<32 + 1, 1 << 61, 1<<61 + 1, math.MaxInt,
		-1, -2, -8, -255, -256, -1 << 61, 1 - 1<<61, math.MinInt, math.MinInt + 1}
	for _, size := range sizes {
		for _, v := range []uint64{0, 1, 256, math.MaxUint64} {
			if b, err := wire.Put(v, size); len(b) != 0 || err != api.ErrArg {
				t.Errorf("Put(%d, %d): % x, %v", v, size, b, err)
			}
		}
	}
}

func TestGetOfEverySize(t *testing.T) {
	v, err := wire.Get([]byte{8, 7, 6, 5, 4, 3, 2, 1})
	wantNumber(t, "Get of 8 unlike bytes", v, err, 0x0102030405060708)
	for size := 1; size <= 8; size++ {
		v, err := wire.Get(ones(size))
		wantNumber(t, "Get of all ff", v, err, greatest(size))
		v, err = wire.Get(make([]byte, size))
		wantNumber(t, "Get of noughts", v, err, 0)
		for seed := range 50 {
			b := mixed(size, seed)
			v, err = wire.Get(b)
			wantNumber(t, "Get of mixed bytes", v, err, worth(b))
		}
	}
}

func TestGetOfSizesThatMayNotBe(t *testing.T) {
	for _, b := range [][]byte{nil, {}, ones(9), make([]byte, 9), ones(10), ones(256), ones(1 << 20)} {
		if v, err := wire.Get(b); v != 0 || err != api.ErrArg {
			t.Errorf("Get of %d bytes: %d, %v", len(b), v, err)
		}
	}
}

// P3.2: the mark, and what bears it.

func TestMarkIsTheMark(t *testing.T) {
	wantBytes(t, "Mark", wire.Mark(), nil, theMark())
}

func TestMarkWrittenOver(t *testing.T) {
	first := wire.Mark()
	second := wire.Mark()
	spoil(first)
	wantBytes(t, "another answer of Mark", second, nil, theMark())
	wantBytes(t, "the next answer of Mark", wire.Mark(), nil, theMark())
	body := mixed(bodySize, 1)
	message, err := wire.Seal(body)
	wantBytes(t, "Seal behind it", message, err, withMark(body))
	got, err := wire.Open(withMark(body))
	wantBytes(t, "Open behind it", got, err, body)
}

func TestSealLaysTheMarkBehind(t *testing.T) {
	for _, body := range bodies() {
		message, err := wire.Seal(body)
		wantBytes(t, "Seal", message, err, withMark(body))
	}
}

func TestSealOfOtherSizes(t *testing.T) {
	for _, size := range []int{0, 1, 8, 42, 49, 51, 57, 58, 64, 256, 1 << 20} {
		message, err := wire.Seal(mixed(size, 2))
		wantError(t, "Seal", message, err, api.ErrArg)
	}
	message, err := wire.Seal(nil)
	wantError(t, "Seal of a nil list", message, err, api.ErrArg)
}

func TestOpenGivesWhatIsAheadOfTheMark(t *testing.T) {
	for _, body := range bodies() {
		got, err := wire.Open(withMark(body))
		wantBytes(t, "Open", got, err, body)
	}
}

// The size is looked at first: also what bears the mark at its end, or 8 bytes behind its byte 50, is refused.
func TestOpenOfOtherSizes(t *testing.T) {
	for _, size := range []int{0, 1, 7, 8, 50, 57, 59, 64, 66, 256, 1 << 20} {
		b := mixed(size, 3)
		body, err := wire.Open(b)
		wantError(t, "Open without the mark", body, err, api.ErrArg)
		if size >= 8 {
			copy(b[size-8:], theMark())
			body, err = wire.Open(b)
			wantError(t, "Open with the mark last", body, err, api.ErrArg)
		}
		if size >= sealed {
			copy(b[bodySize:], theMark())
			body, err = wire.Open(b)
			wantError(t, "Open with the mark at byte 50", body, err, api.ErrArg)
		}
	}
	body, err := wire.Open(nil)
	wantError(t, "Open of a nil list", body, err, api.ErrArg)
}

func TestOpenWithEachByteOfTheMarkWrong(t *testing.T) {
	for _, body := range bodies()[:6] {
		for i := bodySize; i < sealed; i++ {
			for turn := 1; turn < 256; turn++ {
				message := withMark(body)
				message[i] ^= byte(turn)
				got, err := wire.Open(message)
				wantError(t, "Open with a byte of the mark wrong", got, err, api.ErrMark)
			}
		}
	}
}

func TestOpenWithoutTheMarkAtItsPlace(t *testing.T) {
	atTheFront := append(theMark(), make([]byte, bodySize)...)
	oneEarly := append(append(make([]byte, bodySize-1), theMark()...), 0)
	swapped := withMark(make([]byte, bodySize))
	swapped[50], swapped[57] = swapped[57], swapped[50]
	for _, message := range [][]byte{make([]byte, sealed), ones(sealed), atTheFront, oneEarly, swapped, mixed(sealed, 4)} {
		body, err := wire.Open(message)
		wantError(t, "Open", body, err, api.ErrMark)
	}
}

// P3.3: how far apart.

func TestApartOfUnlikeLengths(t *testing.T) {
	sizes := []int{0, 1, 2, 7, 8, 57, 58, 59, 256, 65536}
	for _, n := range sizes {
		for _, m := range sizes {
			if n == m {
				continue
			}
			// Each is the beginning of the other, so that nothing but their lengths tells them apart.
			if got, err := wire.Apart(make([]byte, n), make([]byte, m)); got != 0 || err != api.ErrArg {
				t.Errorf("Apart of %d and %d bytes: %d, %v", n, m, got, err)
			}
			if got, err := wire.Apart(make([]byte, n), ones(m)); got != 0 || err != api.ErrArg {
				t.Errorf("Apart of %d and %d unlike bytes: %d, %v", n, m, got, err)
			}
		}
	}
}

func TestApartOfEmptyTexts(t *testing.T) {
	wantApart(t, nil, nil, 0)
	wantApart(t, nil, []byte{}, 0)
	wantApart(t, []byte{}, []byte{}, 0)
}

func TestApartOfEqualTexts(t *testing.T) {
	for _, n := range []int{1, 2, 58, 1000} {
		a := mixed(n, 5)
		wantApart(t, a, bytes.Clone(a), 0)
		wantApart(t, a, a, 0)
	}
}

func TestApartAtTheEnds(t *testing.T) {
	for _, n := range []int{2, 3, 58, 300} {
		a := mixed(n, 6)
		first, last, both := bytes.Clone(a), bytes.Clone(a), bytes.Clone(a)
		first[0] ^= 1
		last[n-1] ^= 0x80
		both[0] ^= 0x80
		both[n-1] ^= 1
		wantApart(t, a, first, 1)
		wantApart(t, a, last, 1)
		wantApart(t, a, both, 2)
		wantApart(t, first, last, 2)
	}
	wantApart(t, []byte{1}, []byte{2}, 1)
}

// Places are counted, however much differs at each.
func TestApartCountsPlaces(t *testing.T) {
	for turn := 1; turn < 256; turn++ {
		a := mixed(60, 7)
		b := bytes.Clone(a)
		for i := range a {
			wantApart(t, a, b, i)
			b[i] ^= byte(turn)
		}
		wantApart(t, a, b, len(a))
	}
	long := 100000
	wantApart(t, make([]byte, long), ones(long), long)
}

// P3.4: what follows.

func TestWhatWasPutIsGot(t *testing.T) {
	for size := 1; size <= 8; size++ {
		for _, v := range numbers(size) {
			got, err := wire.Get(put(t, v, size))
			wantNumber(t, "Get of Put", got, err, v)
		}
	}
}

func TestWhatWasGotIsPut(t *testing.T) {
	for size := 1; size <= 8; size++ {
		samples := [][]byte{make([]byte, size), ones(size)}
		for seed := range 50 {
			samples = append(samples, mixed(size, seed))
		}
		for _, b := range samples {
			v, err := wire.Get(b)
			if err != nil {
				t.Fatalf("Get(% x): %v", b, err)
			}
			got, err := wire.Put(v, size)
			wantBytes(t, "Put of Get", got, err, b)
		}
	}
}

func TestEveryNumberOfTwoBytes(t *testing.T) {
	for v := range uint64(1 << 16) {
		b := put(t, v, 2)
		if got, err := wire.Get(b); got != v || err != nil {
			t.Fatalf("Get of Put(%d, 2): %d, %v", v, got, err)
		}
		if b[0] != byte(v%256) || b[1] != byte(v/256) {
			t.Fatalf("Put(%d, 2): % x", v, b)
		}
	}
}

func TestWhatWasSealedIsOpened(t *testing.T) {
	for _, body := range bodies() {
		got, err := wire.Open(seal(t, body))
		wantBytes(t, "Open of Seal", got, err, body)
	}
}

func TestWhatWasOpenedIsSealed(t *testing.T) {
	for _, body := range bodies() {
		message := withMark(body)
		got, err := wire.Seal(open(t, message))
		wantBytes(t, "Seal of Open", got, err, message)
	}
}

func TestSealedMessagesAreApartInTheirBodies(t *testing.T) {
	for _, a := range bodies() {
		for _, b := range bodies() {
			want, err := wire.Apart(a, b)
			if err != nil {
				t.Fatal(err)
			}
			wantApart(t, seal(t, a), seal(t, b), want)
		}
	}
}

func TestWhatIsOpenedIsFarFromErased(t *testing.T) {
	for _, body := range bodies() {
		message := seal(t, body)
		open(t, message)
		n, err := wire.Apart(message, ones(sealed))
		if err != nil || n < 8 {
			t.Errorf("% x is %d from all ff, %v", message, n, err)
		}
	}
	// The nearest one: nothing but the mark isn't ff.
	wantApart(t, seal(t, ones(bodySize)), ones(sealed), 8)
}

// R2: an error leaves no trace in what is answered next.
func TestErrorsChangeNothing(t *testing.T) {
	wire.Put(256, 1)
	wire.Put(1, 9)
	wire.Get(ones(9))
	wire.Seal(ones(bodySize + 1))
	wire.Open(ones(sealed))
	wire.Apart(ones(2), ones(3))
	body := mixed(bodySize, 8)
	wantBytes(t, "Put", put(t, 258, 3), nil, []byte{2, 1, 0})
	wantBytes(t, "Seal", seal(t, body), nil, withMark(body))
	wantBytes(t, "Open", open(t, withMark(body)), nil, body)
	wantApart(t, []byte{1, 2}, []byte{1, 3}, 1)
}

// R3: what is handed in stays as it is, what is answered is its owner's.

// spoil grows an answer, and writes over all of it, spare room too.
func spoil(b []byte) {
	grown := append(b, 0x5a, 0xa5, 0x5a, 0xa5, 0x5a, 0xa5, 0x5a, 0xa5)
	for i := len(b); i < len(grown); i++ {
		grown[i] ^= 0x33
	}
	b = b[:cap(b)]
	for i := range b {
		b[i] ^= 0xa5
	}
}

// within is a room of n more bytes than b has, half of them ahead, and b in it: what is handed in has others' bytes behind it.
func within(b []byte, n int) (room, part []byte) {
	room = mixed(len(b)+n, 9)
	from := n / 2
	copy(room[from:], b)
	return room, room[from : from+len(b)]
}

func TestArgumentsOfSealAndOpenStay(t *testing.T) {
	for _, body := range bodies() {
		room, part := within(body, 40)
		before := bytes.Clone(room)
		spoil(seal(t, part))
		if !bytes.Equal(room, before) {
			t.Fatal("Seal changed or kept its argument, or what stands behind it")
		}
		room, part = within(withMark(body), 40)
		before = bytes.Clone(room)
		spoil(open(t, part))
		if !bytes.Equal(room, before) {
			t.Fatal("Open changed or kept its argument, or what stands behind it")
		}
	}
}

func TestArgumentsStayWithAnError(t *testing.T) {
	for _, size := range []int{0, 9, 49, 51, 57, 58, 59} {
		room, part := within(mixed(size, 10), 40)
		before := bytes.Clone(room)
		wire.Open(part)
		wire.Seal(part)
		wire.Get(part)
		wire.Apart(part, room)
		if !bytes.Equal(room, before) {
			t.Errorf("a call that answered an error changed its argument of %d bytes", size)
		}
	}
}

func TestArgumentsOfGetAndApartStay(t *testing.T) {
	for size := 1; size <= 8; size++ {
		room, part := within(mixed(size, 11), 20)
		before := bytes.Clone(room)
		if _, err := wire.Get(part); err != nil {
			t.Fatal(err)
		}
		wantApart(t, part, room[:size], apart(part, room[:size]))
		if !bytes.Equal(room, before) {
			t.Errorf("Get or Apart changed %d bytes", size)
		}
	}
}

// apart is in how many places two texts of one length differ.
func apart(a, b []byte) int {
	n := 0
	for i := range a {
		if a[i] != b[i] {
			n++
		}
	}
	return n
}

func TestAnswersAreTheirOwners(t *testing.T) {
	body := mixed(bodySize, 12)
	message := withMark(body)
	firstPut, secondPut := put(t, 258, 3), put(t, 258, 3)
	firstSeal, secondSeal := seal(t, body), seal(t, body)
	firstOpen, secondOpen := open(t, message), open(t, message)
	spoil(firstPut)
	spoil(firstSeal)
	spoil(firstOpen)
	wantBytes(t, "another answer of Put", secondPut, nil, []byte{2, 1, 0})
	wantBytes(t, "another answer of Seal", secondSeal, nil, message)
	wantBytes(t, "another answer of Open", secondOpen, nil, body)
	wantBytes(t, "the next answer of Put", put(t, 258, 3), nil, []byte{2, 1, 0})
	wantBytes(t, "the next answer of Seal", seal(t, body), nil, message)
	wantBytes(t, "the next answer of Open", open(t, message), nil, body)
}

// A change of what was handed in doesn't show in what was answered.
func TestArgumentsAreNotKept(t *testing.T) {
	body := mixed(bodySize, 13)
	handed := bytes.Clone(body)
	message := seal(t, handed)
	spoil(handed)
	wantBytes(t, "what Seal answered", message, nil, withMark(body))
	opened := open(t, message)
	spoil(message)
	wantBytes(t, "what Open answered", opened, nil, body)
}

// What is cut out ends with its own bytes: grown, it doesn't come upon what stood behind them.
func TestWhatIsCutOutHasNoRoomBehind(t *testing.T) {
	body := open(t, withMark(mixed(bodySize, 14)))
	if cap(body) != bodySize {
		t.Errorf("what Open answers has room for %d bytes", cap(body))
	}
	for size := 1; size <= 8; size++ {
		if b := put(t, 1, size); cap(b) != size {
			t.Errorf("Put(1, %d) has room for %d bytes", size, cap(b))
		}
	}
}

// Grown side by side, two answers don't meet.
func TestAnswersGrownSideBySide(t *testing.T) {
	message := withMark(mixed(bodySize, 15))
	body := open(t, message)
	left, right := append(body, 1), append(body, 2)
	if left[bodySize] != 1 || right[bodySize] != 2 {
		t.Error("one body, grown twice, is one and the same memory")
	}
	wantBytes(t, "the message behind it", message, nil, withMark(mixed(bodySize, 15)))
}
