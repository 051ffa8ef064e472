package field_test

import (
	"bytes"
	"math"
	"slices"
	"sync"
	"testing"

	"patina/api"
	"patina/field"
)

// product is the product as the chapter's words tell it, without tables: that of the polynomials, then their remainder.
func product(a, b byte) byte {
	wide := 0
	for bit := range 8 {
		if b>>bit&1 == 1 {
			wide ^= int(a) << bit
		}
	}
	for bit := 14; bit >= 8; bit-- {
		if wide>>bit&1 == 1 {
			wide ^= 0x11d << (bit - 8)
		}
	}
	return byte(wide)
}

// power is 2 to the k, k from 0 on, by k products.
func power(k int) byte {
	p := byte(1)
	for range k {
		p = product(p, 2)
	}
	return p
}

// value is the polynomial's value at x, each coefficient with a power of its own.
func value(p []byte, x byte) byte {
	sum, at := byte(0), byte(1)
	for i := len(p) - 1; i >= 0; i-- {
		sum ^= product(p[i], at)
		at = product(at, x)
	}
	return sum
}

// polynomial is n coefficients that hang on n and on a seed alone, all kinds of bytes among them.
func polynomial(n, seed int) []byte {
	p := make([]byte, n)
	s := uint32(seed)*2654435761 + uint32(n)
	for i := range p {
		s = s*1664525 + 1013904223
		p[i] = byte(s >> 24)
	}
	return p
}

// each goes through all bytes.
func each(f func(a byte)) {
	for a := range 256 {
		f(byte(a))
	}
}

func wantByte(t *testing.T, what string, got, want byte) {
	t.Helper()
	if got != want {
		t.Errorf("%s: %#x, want %#x", what, got, want)
	}
}

func wantBytes(t *testing.T, what string, got, want []byte) {
	t.Helper()
	if !bytes.Equal(got, want) {
		t.Errorf("%s: % x, want % x", what, got, want)
	}
}

// The examples of the chapter's table.

func TestExamplesOfProducts(t *testing.T) {
	f := field.New()
	for _, x := range []struct{ a, b, want byte }{{2, 0x80, 0x1d}, {0, 7, 0}, {0x53, 0xca, 0x8f}} {
		wantByte(t, "Mul", f.Mul(x.a, x.b), x.want)
	}
	for _, x := range []struct {
		a, want byte
		err     error
	}{{1, 1, nil}, {2, 0x8e, nil}, {0, 0, api.ErrZero}} {
		if got, err := f.Inv(x.a); got != x.want || err != x.err {
			t.Errorf("Inv(%#x): %#x, %v", x.a, got, err)
		}
	}
	for _, x := range []struct {
		a, b, want byte
		err        error
	}{{6, 3, 2, nil}, {0, 5, 0, nil}, {5, 0, 0, api.ErrZero}} {
		if got, err := f.Div(x.a, x.b); got != x.want || err != x.err {
			t.Errorf("Div(%#x, %#x): %#x, %v", x.a, x.b, got, err)
		}
	}
}

func TestExamplesOfPowers(t *testing.T) {
	f := field.New()
	for _, x := range []struct {
		k    int
		want byte
	}{{0, 1}, {8, 0x1d}, {255, 1}, {-1, 0x8e}, {math.MinInt64, 0xcc}} {
		if got := f.Exp(x.k); got != x.want {
			t.Errorf("Exp(%d): %#x, want %#x", x.k, got, x.want)
		}
	}
	for _, x := range []struct {
		a    byte
		want int
		err  error
	}{{1, 0, nil}, {0x1d, 8, nil}, {0, 0, api.ErrZero}} {
		if got, err := f.Log(x.a); got != x.want || err != x.err {
			t.Errorf("Log(%#x): %d, %v", x.a, got, err)
		}
	}
}

func TestExamplesOfPolynomials(t *testing.T) {
	f := field.New()
	wantByte(t, "Eval(1 0 3, 2)", f.Eval([]byte{1, 0, 3}, 2), 7)
	wantByte(t, "Eval(none, 9)", f.Eval(nil, 9), 0)
	wantBytes(t, "Times(1 2, 1 3)", f.Times([]byte{1, 2}, []byte{1, 3}), []byte{1, 1, 6})
	wantBytes(t, "Times(0 1, 0 1)", f.Times([]byte{0, 1}, []byte{0, 1}), []byte{0, 0, 1})
}

// P1.1: New is the field.

// Whichever call comes first on a Field, it finds the tables made.
func TestFirstUseByEachCall(t *testing.T) {
	wantByte(t, "Mul first", field.New().Mul(0x53, 0xca), 0x8f)
	wantByte(t, "Exp first", field.New().Exp(8), 0x1d)
	wantByte(t, "Eval first", field.New().Eval([]byte{2, 0}, 0x80), 0x1d)
	wantBytes(t, "Times first", field.New().Times([]byte{2}, []byte{0x80}), []byte{0x1d})
	if a, err := field.New().Inv(2); a != 0x8e || err != nil {
		t.Errorf("Inv first: %#x, %v", a, err)
	}
	if a, err := field.New().Div(6, 3); a != 2 || err != nil {
		t.Errorf("Div first: %#x, %v", a, err)
	}
	if k, err := field.New().Log(0x1d); k != 8 || err != nil {
		t.Errorf("Log first: %d, %v", k, err)
	}
}

func TestFieldsAreApart(t *testing.T) {
	f, g := field.New(), field.New()
	if f == g {
		t.Error("New answered one Field twice")
	}
	each(func(a byte) {
		wantByte(t, "Mul of two Fields", f.Mul(a, 0x53), g.Mul(a, 0x53))
	})
}

// askAll asks one Field with every call, and tells how many answers were wrong.
func askAll(f *field.Field, from int) int {
	wrong := 0
	count := func(ok bool) {
		if !ok {
			wrong++
		}
	}
	a, b := byte(from*37+1), byte(from*101+2)
	inverse, err := f.Inv(2)
	count(inverse == 0x8e && err == nil)
	quotient, err := f.Div(6, 3)
	count(quotient == 2 && err == nil)
	log, err := f.Log(0x1d)
	count(log == 8 && err == nil)
	count(f.Mul(a, b) == product(a, b))
	count(f.Exp(255+8) == 0x1d)
	count(f.Eval([]byte{1, 0, 3}, 2) == 7)
	count(slices.Equal(f.Times([]byte{1, 2}, []byte{1, 3}), []byte{1, 1, 6}))
	return wrong
}

// Several goroutines ask a Field that nobody asked before, all at one time; round upon round, since the first use is but one.
func TestSeveralGoroutines(t *testing.T) {
	const rounds, workers = 500, 8
	var wrong [workers]int
	for range rounds {
		f := field.New()
		start := make(chan struct{})
		var group sync.WaitGroup
		for w := range workers {
			group.Add(1)
			go func() {
				defer group.Done()
				<-start
				wrong[w] += askAll(f, w)
			}()
		}
		close(start)
		group.Wait()
	}
	if wrong != [workers]int{} {
		t.Errorf("wrong answers of each goroutine: %v", wrong)
	}
}

// P1.2: products, inverses, quotients.

func TestMulIsTheProduct(t *testing.T) {
	f := field.New()
	each(func(a byte) {
		each(func(b byte) {
			if got, want := f.Mul(a, b), product(a, b); got != want {
				t.Fatalf("Mul(%#x, %#x): %#x, want %#x", a, b, got, want)
			}
		})
	})
}

func TestInvMakesOne(t *testing.T) {
	f := field.New()
	each(func(a byte) {
		inverse, err := f.Inv(a)
		if a == 0 {
			if inverse != 0 || err != api.ErrZero {
				t.Errorf("Inv(0): %#x, %v", inverse, err)
			}
			return
		}
		if err != nil || product(a, inverse) != 1 {
			t.Errorf("Inv(%#x): %#x, %v", a, inverse, err)
		}
	})
}

func TestDivUndoesMul(t *testing.T) {
	f := field.New()
	each(func(a byte) {
		each(func(b byte) {
			quotient, err := f.Div(a, b)
			if b == 0 {
				if quotient != 0 || err != api.ErrZero {
					t.Fatalf("Div(%#x, 0): %#x, %v", a, quotient, err)
				}
				return
			}
			if err != nil || product(quotient, b) != a {
				t.Fatalf("Div(%#x, %#x): %#x, %v", a, b, quotient, err)
			}
		})
	})
}

// An error leaves no trace in what is answered next.
func TestErrorsChangeNothing(t *testing.T) {
	f := field.New()
	f.Inv(0)
	f.Div(7, 0)
	f.Log(0)
	each(func(a byte) {
		wantByte(t, "Mul behind errors", f.Mul(a, 0xb7), product(a, 0xb7))
	})
}

// P1.3: powers and logs.

func TestExpNearNought(t *testing.T) {
	f := field.New()
	for k := range 800 {
		want := power(k)
		if got := f.Exp(k); got != want {
			t.Fatalf("Exp(%d): %#x, want %#x", k, got, want)
		}
		if got := product(f.Exp(-k), want); got != 1 {
			t.Fatalf("Exp(%d) is not the inverse of Exp(%d)", -k, k)
		}
	}
}

func TestExpAtTheEnds(t *testing.T) {
	f := field.New()
	for _, x := range []struct {
		k    int
		rest int // k less whole rounds of 255, worked out by hand
	}{
		{math.MaxInt64, 127}, // 2^8 is 1 in rounds of 255, so 2^63 is 2^7, 128
		{math.MaxInt64 - 1, 126},
		{math.MinInt64, 127}, // 255 - 128
		{math.MinInt64 + 1, 128},
		{math.MaxInt32, 127},
		{math.MinInt32, 127},
		{-255, 0},
		{-256, 254},
		{254, 254},
		{256, 1},
	} {
		if got, want := f.Exp(x.k), power(x.rest); got != want {
			t.Errorf("Exp(%d): %#x, want %#x", x.k, got, want)
		}
	}
}

func TestPowersAreAllElements(t *testing.T) {
	f := field.New()
	var seen [256]int
	for k := range 255 {
		seen[f.Exp(k)]++
	}
	for a, n := range seen {
		if a == 0 && n != 0 || a != 0 && n != 1 {
			t.Errorf("%#x is a power %d times", a, n)
		}
	}
}

func TestLogUndoesExp(t *testing.T) {
	f := field.New()
	for k := range 255 {
		if got, err := f.Log(power(k)); got != k || err != nil {
			t.Errorf("Log(%#x): %d, %v, want %d", power(k), got, err, k)
		}
	}
	if k, err := f.Log(0); k != 0 || err != api.ErrZero {
		t.Errorf("Log(0): %d, %v", k, err)
	}
}

// P1.4: polynomials.

func TestEvalIsTheValue(t *testing.T) {
	f := field.New()
	for n := range 70 {
		p := polynomial(n, 1)
		each(func(x byte) {
			if got, want := f.Eval(p, x), value(p, x); got != want {
				t.Fatalf("Eval(% x, %#x): %#x, want %#x", p, x, got, want)
			}
		})
	}
}

func TestEvalOfNoCoefficients(t *testing.T) {
	f := field.New()
	each(func(x byte) {
		wantByte(t, "Eval of a nil list", f.Eval(nil, x), 0)
		wantByte(t, "Eval of an empty list", f.Eval([]byte{}, x), 0)
	})
}

func TestEvalOfNoughtsAhead(t *testing.T) {
	f := field.New()
	each(func(x byte) {
		wantByte(t, "Eval of noughts", f.Eval([]byte{0, 0, 0}, x), 0)
		wantByte(t, "Eval with noughts ahead", f.Eval([]byte{0, 0, 9, 0, 4}, x), f.Eval([]byte{9, 0, 4}, x))
	})
}

// times is the product, coefficient by coefficient of the answer.
func times(p, q []byte) []byte {
	out := make([]byte, len(p)+len(q)-1)
	for k := range out {
		for j := range q {
			if i := k - j; i >= 0 && i < len(p) {
				out[k] ^= product(p[i], q[j])
			}
		}
	}
	return out
}

func TestTimesIsTheProduct(t *testing.T) {
	f := field.New()
	for n := 1; n < 20; n++ {
		for m := 1; m < 20; m++ {
			p, q := polynomial(n, 2), polynomial(m, 3)
			wantBytes(t, "Times", f.Times(p, q), times(p, q))
		}
	}
}

func TestTimesOfNoCoefficients(t *testing.T) {
	f := field.New()
	none := [][]byte{nil, {}}
	some := [][]byte{nil, {}, {0}, {5}, {1, 2, 3}}
	for _, p := range none {
		for _, q := range some {
			if got := f.Times(p, q); len(got) != 0 {
				t.Errorf("Times(% x, % x): % x", p, q, got)
			}
			if got := f.Times(q, p); len(got) != 0 {
				t.Errorf("Times(% x, % x): % x", q, p, got)
			}
		}
	}
}

func TestTimesKeepsNoughtsAhead(t *testing.T) {
	f := field.New()
	wantBytes(t, "Times(0 0 1 2, 1 3)", f.Times([]byte{0, 0, 1, 2}, []byte{1, 3}), []byte{0, 0, 1, 1, 6})
	wantBytes(t, "Times(0 1 2, 0 1 3)", f.Times([]byte{0, 1, 2}, []byte{0, 1, 3}), []byte{0, 0, 1, 1, 6})
	wantBytes(t, "Times(0, 0 0)", f.Times([]byte{0}, []byte{0, 0}), []byte{0, 0})
	wantBytes(t, "Times(7, 1)", f.Times([]byte{7}, []byte{1}), []byte{7})
}

func TestLongPolynomials(t *testing.T) {
	f := field.New()
	p, q := polynomial(100000, 4), polynomial(3, 5)
	wantByte(t, "Eval of a long list", f.Eval(p, 0x53), value(p, 0x53))
	wantBytes(t, "Times of a long list", f.Times(p, q), times(p, q))
}

// P1.5: the laws.

func TestProductsOfThree(t *testing.T) {
	f := field.New()
	each(func(a byte) {
		each(func(b byte) {
			each(func(c byte) {
				if f.Mul(f.Mul(a, b), c) != f.Mul(a, f.Mul(b, c)) {
					t.Fatalf("products of %#x, %#x, %#x differ", a, b, c)
				}
				if f.Mul(a, b^c) != f.Mul(a, b)^f.Mul(a, c) {
					t.Fatalf("%#x times the sum of %#x and %#x differs", a, b, c)
				}
			})
		})
	})
}

func TestProductsOfTwo(t *testing.T) {
	f := field.New()
	each(func(a byte) {
		wantByte(t, "Mul(a, 1)", f.Mul(a, 1), a)
		wantByte(t, "Mul(a, 0)", f.Mul(a, 0), 0)
		each(func(b byte) {
			if f.Mul(a, b) != f.Mul(b, a) {
				t.Fatalf("Mul(%#x, %#x) hangs on the order", a, b)
			}
			if a != 0 && b != 0 && f.Mul(a, b) == 0 {
				t.Fatalf("Mul(%#x, %#x) is 0", a, b)
			}
		})
	})
}

func TestExpOfSums(t *testing.T) {
	f := field.New()
	numbers := []int{0, 1, 2, 100, 254, 255, 256, 1 << 31, 1<<62 - 1, 1 << 62}
	for _, n := range slices.Clone(numbers) {
		numbers = append(numbers, -n)
	}
	numbers = append(numbers, math.MaxInt64, math.MinInt64)
	for _, j := range numbers {
		for _, k := range numbers {
			if k > 0 && j > math.MaxInt64-k || k < 0 && j < math.MinInt64-k {
				continue
			}
			if f.Exp(j+k) != f.Mul(f.Exp(j), f.Exp(k)) {
				t.Errorf("Exp(%d + %d) is not the product", j, k)
			}
		}
	}
}

func TestEvalOfTimes(t *testing.T) {
	f := field.New()
	for n := range 9 {
		for m := range 9 {
			p, q := polynomial(n, 6), polynomial(m, 7)
			both := f.Times(p, q)
			each(func(x byte) {
				if f.Eval(both, x) != f.Mul(f.Eval(p, x), f.Eval(q, x)) {
					t.Fatalf("Times(% x, % x) at %#x", p, q, x)
				}
			})
		}
	}
}

// R3: what is handed in stays as it is, what is answered is new memory.

func TestArgumentsStay(t *testing.T) {
	f := field.New()
	room := polynomial(12, 8)
	p, q := room[:4], room[4:8]
	before := bytes.Clone(room)
	f.Eval(p, 3)
	got := f.Times(p, q)
	wantBytes(t, "the arguments behind the calls", room, before)
	got = got[:cap(got)]
	for i := range got {
		got[i] ^= 0xff
	}
	wantBytes(t, "the arguments behind a change of the answer", room, before)
	want := times(p, q)
	next := f.Times(p, q)
	wantBytes(t, "the next answer", next, want)
	for i := range got {
		got[i] ^= 0xff
	}
	wantBytes(t, "the next answer behind a change of the first one", next, want)
}

// A factor of one coefficient 1 is where an answer could most easily be its argument.
func TestTimesOneIsNewMemory(t *testing.T) {
	f := field.New()
	p := []byte{5, 6, 7}
	for _, got := range [][]byte{f.Times(p, []byte{1}), f.Times([]byte{1}, p)} {
		wantBytes(t, "Times with 1", got, p)
		got[0] = 9
		wantBytes(t, "p behind a change of the answer", p, []byte{5, 6, 7})
	}
}
