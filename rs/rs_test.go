package rs_test

import (
	"bytes"
	"sync"
	"testing"

	"patina/api"
	"patina/rs"
)

// product is the product of two elements, worked out without tables.
func product(a, b byte) byte {
	var sum byte
	for ; b != 0; b >>= 1 {
		if b&1 == 1 {
			sum ^= a
		}
		high := a & 0x80
		a <<= 1
		if high != 0 {
			a ^= 0x1d
		}
	}
	return sum
}

// power is 2 to the k, k from 0 on.
func power(k int) byte {
	p := byte(1)
	for range k {
		p = product(p, 2)
	}
	return p
}

// values are a word's values at 2^0, .. 2^5, each coefficient with a power of its own.
func values(word []byte) [6]byte {
	var sums [6]byte
	for k := range sums {
		at := byte(1)
		for i := len(word) - 1; i >= 0; i-- {
			sums[k] ^= product(word[i], at)
			at = product(at, power(k))
		}
	}
	return sums
}

// distance is in how many bytes two words differ.
func distance(a, b []byte) int {
	n := 0
	for i := range a {
		if a[i] != b[i] {
			n++
		}
	}
	return n
}

// source gives numbers that hang on its start alone.
type source uint64

func (s *source) next(n int) int {
	*s = *s*6364136223846793005 + 1442695040888963407
	return int(uint64(*s) >> 33 % uint64(n))
}

// turn is a change of a byte: any but none.
func (s *source) turn() byte { return byte(1 + s.next(255)) }

func (s *source) bytes(n int) []byte {
	b := make([]byte, n)
	for i := range b {
		b[i] = byte(s.next(256))
	}
	return b
}

// places are n unlike places of a word.
func (s *source) places(n int) []int {
	var taken [api.Word]bool
	var out []int
	for len(out) < n {
		if i := s.next(api.Word); !taken[i] {
			taken[i] = true
			out = append(out, i)
		}
	}
	return out
}

// messages are some of all kinds: noughts, all ones, one byte alone, mixed ones.
func messages() [][]byte {
	first, last := make([]byte, api.Message), make([]byte, api.Message)
	first[0], last[api.Message-1] = 0x80, 1
	out := [][]byte{make([]byte, api.Message), bytes.Repeat([]byte{0xff}, api.Message), first, last}
	s := source(1)
	for range 6 {
		out = append(out, s.bytes(api.Message))
	}
	return out
}

func encode(t *testing.T, c *rs.Codec, message []byte) []byte {
	t.Helper()
	word, err := c.Encode(message)
	if err != nil || len(word) != api.Word {
		t.Fatalf("Encode(% x): % x, %v", message, word, err)
	}
	return word
}

func wantMessage(t *testing.T, c *rs.Codec, word, message []byte, damage int) {
	t.Helper()
	got, n, err := c.Decode(word)
	if err != nil || n != damage || !bytes.Equal(got, message) {
		t.Fatalf("Decode(% x): % x, %d, %v, want % x, %d", word, got, n, err, message, damage)
	}
}

func wantError(t *testing.T, c *rs.Codec, word []byte, want error) {
	t.Helper()
	if got, n, err := c.Decode(word); len(got) != 0 || n != 0 || err != want {
		t.Fatalf("Decode(% x): % x, %d, %v, want %v", word, got, n, err, want)
	}
}

// with is the word with some of its bytes turned.
func with(word []byte, places []int, turns ...byte) []byte {
	out := bytes.Clone(word)
	for k, i := range places {
		out[i] ^= turns[k]
	}
	return out
}

// The examples of the chapter's table.

func TestExamplesOfEncode(t *testing.T) {
	c := rs.New()
	noughts := make([]byte, 58)
	if got := encode(t, c, noughts); !bytes.Equal(got, make([]byte, 64)) {
		t.Errorf("Encode(58 noughts): % x", got)
	}
	one := append(make([]byte, 57), 1)
	want := append(make([]byte, 57), 0x01, 0x3f, 0x01, 0xda, 0x20, 0xe3, 0x26)
	if got := encode(t, c, one); !bytes.Equal(got, want) {
		t.Errorf("Encode(57 noughts and 1): % x", got)
	}
	if got, err := c.Encode(make([]byte, 57)); got != nil || err != api.ErrArg {
		t.Errorf("Encode(57 bytes): % x, %v", got, err)
	}
}

func TestExamplesOfWords(t *testing.T) {
	c := rs.New()
	five := append(make([]byte, 63), 5)
	if got, err := c.Syndromes(five); err != nil || !bytes.Equal(got, []byte{5, 5, 5, 5, 5, 5}) {
		t.Errorf("Syndromes(63 noughts and 5): % x, %v", got, err)
	}
	wantMessage(t, c, five, make([]byte, 58), 1)
	wantError(t, c, append(make([]byte, 61), 1, 2, 3), api.ErrDecode)
	wantError(t, c, make([]byte, 65), api.ErrArg)
}

// P2.1: New is a codec.

func TestCodecsAreApart(t *testing.T) {
	b, c := rs.New(), rs.New()
	if b == c {
		t.Error("New answered one Codec twice")
	}
	for _, m := range messages() {
		if !bytes.Equal(encode(t, b, m), encode(t, c, m)) {
			t.Errorf("two codecs encode % x in two ways", m)
		}
	}
}

// ask asks a codec with every call, and tells how many answers were wrong.
func ask(c *rs.Codec, seed int) int {
	s := source(seed)
	message := s.bytes(api.Message)
	wrong := 0
	count := func(ok bool) {
		if !ok {
			wrong++
		}
	}
	word, err := c.Encode(message)
	count(err == nil && len(word) == api.Word && values(word) == [6]byte{})
	for n := range 5 {
		turned := with(word, s.places(n), s.turn(), s.turn(), s.turn(), s.turn())
		got, damage, err := c.Decode(turned)
		if n <= 2 {
			count(err == nil && damage == n && bytes.Equal(got, message))
		} else {
			count(err == api.ErrDecode)
		}
		want := values(turned)
		check, err := c.Syndromes(turned)
		count(err == nil && bytes.Equal(check, want[:]))
	}
	return wrong
}

// Several goroutines ask a codec that nobody asked before, all at one time.
func TestSeveralGoroutines(t *testing.T) {
	const rounds, workers = 20, 8
	var wrong [workers]int
	for round := range rounds {
		c := rs.New()
		start := make(chan struct{})
		var group sync.WaitGroup
		for w := range workers {
			group.Add(1)
			go func() {
				defer group.Done()
				<-start
				wrong[w] += ask(c, round*workers+w)
			}()
		}
		close(start)
		group.Wait()
	}
	if wrong != [workers]int{} {
		t.Errorf("wrong answers of each goroutine: %v", wrong)
	}
}

// P2.2: Encode.

func TestEncodeIsTheCodeword(t *testing.T) {
	c := rs.New()
	for _, m := range messages() {
		word := encode(t, c, m)
		if !bytes.Equal(word[:api.Message], m) {
			t.Errorf("the codeword of % x begins with % x", m, word[:api.Message])
		}
		if got := values(word); got != [6]byte{} {
			t.Errorf("the codeword of % x has the values % x", m, got)
		}
	}
}

// Each byte of a message has a codeword of its own; what a sum of messages is encoded as is the sum of theirs.
func TestEncodeOfEachByte(t *testing.T) {
	c := rs.New()
	sum, message := make([]byte, api.Word), make([]byte, api.Message)
	for i := range api.Message {
		alone := make([]byte, api.Message)
		alone[i], message[i] = byte(i+1), byte(i+1)
		word := encode(t, c, alone)
		if values(word) != [6]byte{} || !bytes.Equal(word[:api.Message], alone) {
			t.Errorf("Encode of byte %d alone: % x", i, word)
		}
		for k := range sum {
			sum[k] ^= word[k]
		}
	}
	if got := encode(t, c, message); !bytes.Equal(got, sum) {
		t.Errorf("Encode of the sum: % x, want % x", got, sum)
	}
}

func TestEncodeOfOtherLengths(t *testing.T) {
	c := rs.New()
	wrong := [][]byte{nil, {}}
	for n := range 200 {
		if n != api.Message {
			wrong = append(wrong, make([]byte, n), make([]byte, n, 200))
		}
	}
	for _, m := range wrong {
		if got, err := c.Encode(m); len(got) != 0 || err != api.ErrArg {
			t.Errorf("Encode of %d bytes: % x, %v", len(m), got, err)
		}
	}
}

// P2.3: Syndromes.

func TestSyndromesAreTheValues(t *testing.T) {
	c := rs.New()
	s := source(2)
	words := [][]byte{make([]byte, api.Word), bytes.Repeat([]byte{0xff}, api.Word)}
	for i := range api.Word {
		alone := make([]byte, api.Word)
		alone[i] = s.turn()
		words = append(words, alone, s.bytes(api.Word))
	}
	for _, w := range words {
		want := values(w)
		if got, err := c.Syndromes(w); err != nil || !bytes.Equal(got, want[:]) {
			t.Errorf("Syndromes(% x): % x, %v, want % x", w, got, err, want)
		}
	}
}

func TestWordsOfOtherLengths(t *testing.T) {
	c := rs.New()
	wrong := [][]byte{nil, {}}
	for n := range 200 {
		if n != api.Word {
			wrong = append(wrong, make([]byte, n), make([]byte, n, 200))
		}
	}
	for _, w := range wrong {
		if got, err := c.Syndromes(w); len(got) != 0 || err != api.ErrArg {
			t.Errorf("Syndromes of %d bytes: % x, %v", len(w), got, err)
		}
		wantError(t, c, w, api.ErrArg)
	}
}

// P2.4 and P2.5: Decode.

func TestDecodeOfCodewords(t *testing.T) {
	c := rs.New()
	for _, m := range messages() {
		word := encode(t, c, m)
		wantMessage(t, c, word, m, 0)
		if got, err := c.Syndromes(word); err != nil || !bytes.Equal(got, make([]byte, 6)) {
			t.Errorf("Syndromes of a codeword: % x, %v", got, err)
		}
	}
}

// Every byte of a codeword, turned in every way.
func TestDecodeOfOneTurned(t *testing.T) {
	c := rs.New()
	for _, m := range messages()[2:5] {
		word := encode(t, c, m)
		for i := range api.Word {
			for turn := 1; turn < 256; turn++ {
				turned := with(word, []int{i}, byte(turn))
				wantMessage(t, c, turned, m, 1)
				if got, err := c.Syndromes(turned); err != nil || bytes.Equal(got, make([]byte, 6)) {
					t.Fatalf("Syndromes with byte %d turned: % x, %v", i, got, err)
				}
			}
		}
	}
}

// Every pair of places: of the message, of the parity, of both, first and last ones among them.
func TestDecodeOfTwoTurned(t *testing.T) {
	c := rs.New()
	s := source(3)
	for _, m := range messages() {
		word := encode(t, c, m)
		for j := range api.Word {
			for i := range j {
				turn := s.turn()
				wantMessage(t, c, with(word, []int{i, j}, turn, s.turn()), m, 2)
				wantMessage(t, c, with(word, []int{i, j}, turn, turn), m, 2)
			}
		}
	}
}

// Turned bytes that cancel out in one of the syndromes: it alone tells nothing.
func TestDecodeOfTwoThatCancelOut(t *testing.T) {
	c := rs.New()
	message := messages()[5]
	word := encode(t, c, message)
	for k := range 6 {
		for j := range api.Word {
			for i := range j {
				atI := product(7, power((63-j)*k%255))
				atJ := product(7, power((63-i)*k%255))
				turned := with(word, []int{i, j}, atI, atJ)
				if got, err := c.Syndromes(turned); err != nil || got[k] != 0 {
					t.Fatalf("Syndromes with the places %d and %d turned: % x, %v", i, j, got, err)
				}
				wantMessage(t, c, turned, message, 2)
			}
		}
	}
}

// Three and four turned bytes are told, wherever they lie.
func TestDecodeOfThreeTurned(t *testing.T) {
	c := rs.New()
	s := source(4)
	word := encode(t, c, messages()[6])
	for k := range api.Word {
		for j := range k {
			for i := range j {
				if (i+j+k)%3 == 0 || i == 0 && k == api.Word-1 {
					wantError(t, c, with(word, []int{i, j, k}, s.turn(), s.turn(), s.turn()), api.ErrDecode)
				}
			}
		}
	}
}

func TestDecodeOfFourTurned(t *testing.T) {
	c := rs.New()
	s := source(5)
	all := messages()
	edges := [][]int{{0, 1, 2, 3}, {60, 61, 62, 63}, {0, 1, 62, 63}, {56, 57, 58, 59}, {0, 57, 58, 63}}
	for n := range 20000 {
		word := encode(t, c, all[n%len(all)])
		places := s.places(4)
		if n < 5000 {
			places = edges[n%len(edges)]
		}
		wantError(t, c, with(word, places, s.turn(), s.turn(), s.turn(), s.turn()), api.ErrDecode)
	}
}

// A codeword that is 7 from another one, and the way between them: what is nearer than 3 to either is read as that one.
func TestDecodeBetweenTwoCodewords(t *testing.T) {
	c := rs.New()
	s := source(6)
	for _, m := range messages() {
		from := encode(t, c, m)
		other := bytes.Clone(m)
		other[api.Message-1] ^= s.turn()
		to := encode(t, c, other)
		if n := distance(from, to); n != 7 {
			t.Fatalf("codewords %d apart", n)
		}
		for set := range 1 << 7 {
			word, n := bytes.Clone(from), 0
			for bit := range 7 {
				if set>>bit&1 == 1 {
					word[57+bit] = to[57+bit]
					n++
				}
			}
			switch {
			case n <= 2:
				wantMessage(t, c, word, m, n)
			case n >= 5:
				wantMessage(t, c, word, other, 7-n)
			default:
				wantError(t, c, word, api.ErrDecode)
			}
		}
	}
}

// near tells for syndromes how few turned bytes make them: by a list of what each single byte makes, without the codec's way to search.
type near map[[6]byte]int

func newNear() near {
	n := near{}
	for i := range api.Word {
		alone := make([]byte, api.Word)
		for turn := 1; turn < 256; turn++ {
			alone[i] = byte(turn)
			n[values(alone)] = i
		}
	}
	return n
}

// turned is 0 to 2, or 3 for more.
func (n near) turned(word []byte) int {
	s := values(word)
	if s == [6]byte{} {
		return 0
	}
	if _, ok := n[s]; ok {
		return 1
	}
	for one := range n {
		rest := s
		for k := range rest {
			rest[k] ^= one[k]
		}
		if _, ok := n[rest]; ok {
			return 2
		}
	}
	return 3
}

// check holds Decode against what is near a word.
func (n near) check(t *testing.T, c *rs.Codec, word []byte) int {
	t.Helper()
	want := n.turned(word)
	message, damage, err := c.Decode(word)
	if want == 3 {
		wantError(t, c, word, api.ErrDecode)
		return want
	}
	if err != nil || damage != want {
		t.Fatalf("Decode(% x): % x, %d, %v, want %d", word, message, damage, err, want)
	}
	if got := distance(encode(t, c, message), word); got != damage {
		t.Fatalf("Decode(% x): the codeword of its answer is %d from it, not %d", word, got, damage)
	}
	return want
}

// Words of all kinds: of any bytes, and with 5 and more bytes of a codeword turned.
func TestDecodeOfFarWords(t *testing.T) {
	c := rs.New()
	n := newNear()
	s := source(7)
	word := encode(t, c, messages()[7])
	for range 100 {
		n.check(t, c, s.bytes(api.Word))
		places := s.places(5 + s.next(59))
		n.check(t, c, with(word, places, s.bytes(len(places))...))
	}
}

// leaves is what turn times x^place leaves when it is divided by (x - 2^0) .. (x - 2^5): six bytes with its values at 2^0, .. 2^5.
func leaves(place int, turn byte) []byte {
	divisor := []byte{1}
	for k := range 6 {
		next := append(bytes.Clone(divisor), 0)
		for i, d := range divisor {
			next[i+1] ^= product(d, power(k))
		}
		divisor = next
	}
	rest := []byte{0, 0, 0, 0, 0, turn}
	for range place {
		high := rest[0]
		rest = append(rest[1:], 0)
		for i := range rest {
			rest[i] ^= product(high, divisor[i+1])
		}
	}
	return rest
}

// Words whose syndromes are those of a damaged symbol ahead of the word's first one, where there is none: alone, and with one that is in the word.
func TestDecodeOfPlacesBeyondTheWord(t *testing.T) {
	c := rs.New()
	n := newNear()
	for place := 64; place < 255; place++ {
		turn := byte(place)
		word := append(make([]byte, api.Message), leaves(place, turn)...)
		got := values(word)
		for k := range got {
			if want := product(turn, power(place*k%255)); got[k] != want {
				t.Fatalf("the word for x^%d has the value %#x at 2^%d, want %#x", place, got[k], k, want)
			}
		}
		n.check(t, c, word)
		word[place%api.Message] ^= 9
		n.check(t, c, word)
	}
}

// An error leaves no trace in what is answered next.
func TestErrorsChangeNothing(t *testing.T) {
	c := rs.New()
	message := messages()[8]
	word := encode(t, c, message)
	c.Encode(nil)
	c.Syndromes(word[1:])
	c.Decode(word[1:])
	wantError(t, c, with(word, []int{1, 2, 3}, 1, 1, 1), api.ErrDecode)
	if got := encode(t, c, message); !bytes.Equal(got, word) {
		t.Errorf("Encode behind errors: % x, want % x", got, word)
	}
	wantMessage(t, c, with(word, []int{0, 63}, 1, 1), message, 2)
}

// R3: what is handed in stays as it is, what is answered is its owner's.

// spoil overwrites an answer, spare room too.
func spoil(b []byte) {
	b = b[:cap(b)]
	for i := range b {
		b[i] ^= 0xa5
	}
}

func TestArgumentsStay(t *testing.T) {
	c := rs.New()
	s := source(8)
	room := s.bytes(200)
	message := room[3 : 3+api.Message]
	before := bytes.Clone(room)
	word := encode(t, c, message)
	spoil(word)
	if !bytes.Equal(room, before) {
		t.Error("Encode changed or kept its argument")
	}
	for _, damage := range []int{0, 1, 2, 3} {
		copy(room[100:], with(encode(t, c, message), s.places(damage), 1, 2, 3))
		before = bytes.Clone(room)
		turned := room[100 : 100+api.Word]
		check, _ := c.Syndromes(turned)
		got, _, _ := c.Decode(turned)
		spoil(check)
		spoil(got)
		if !bytes.Equal(room, before) {
			t.Errorf("a word with %d bytes turned was changed or kept", damage)
		}
	}
}

func TestAnswersAreTheirOwners(t *testing.T) {
	c := rs.New()
	message := messages()[9]
	first, second := encode(t, c, message), encode(t, c, message)
	want := bytes.Clone(second)
	spoil(first)
	if !bytes.Equal(second, want) || !bytes.Equal(encode(t, c, message), want) {
		t.Error("two answers of Encode share memory")
	}
	word := with(want, []int{4, 60}, 1, 2)
	for range 2 {
		got, n, err := c.Decode(word)
		if err != nil || n != 2 || !bytes.Equal(got, message) {
			t.Fatalf("Decode: % x, %d, %v", got, n, err)
		}
		values := values(word)
		check, err := c.Syndromes(word)
		if err != nil || !bytes.Equal(check, values[:]) {
			t.Fatalf("Syndromes: % x, %v", check, err)
		}
		spoil(got)
		spoil(check)
	}
}

// What is changed behind a call plays no part in later ones: nothing is kept.
func TestArgumentsAreNotKept(t *testing.T) {
	c := rs.New()
	message := bytes.Clone(messages()[5])
	word := encode(t, c, message)
	want := bytes.Clone(word)
	got, _, _ := c.Decode(word)
	spoil(message)
	spoil(word)
	if !bytes.Equal(got, messages()[5]) || !bytes.Equal(encode(t, c, messages()[5]), want) {
		t.Error("a change of an argument shows in an answer")
	}
}
