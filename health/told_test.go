package health_test

import (
	"math"
	"slices"
	"testing"

	"patina/api"
	"patina/health"
)

// What the chapter says, told without the program.

// block is how one of the twelve stands: its reads, those written down, its score.
type block struct{ reads, noted, score int }

// ledger is how a Health stands.
type ledger [12]block

// started is P16.1, of lists that may be.
func started(reads, scores []int) ledger {
	var l ledger
	for i := range l {
		l[i] = block{reads: reads[i], score: scores[i]}
		if reads[i] > 65535 {
			l[i].reads = 65535
		}
		if scores[i] > 255 {
			l[i].score = 255
		}
		l[i].noted = l[i].reads
	}
	return l
}

// read is P16.2.
func (l *ledger) read(at int) error {
	if at < 0 || at > 11 {
		return api.ErrArg
	}
	if l[at].reads < 65535 {
		l[at].reads++
	}
	return nil
}

// report is P16.3.
func (l *ledger) report(at int) error {
	if at < 0 || at > 11 {
		return api.ErrArg
	}
	if l[at].score < 255 {
		l[at].score++
	}
	return nil
}

// erased is P16.4.
func (l *ledger) erased(at int) error {
	if at < 0 || at > 11 {
		return api.ErrArg
	}
	l[at].reads, l[at].noted = 0, 0
	return nil
}

// noteAll is a part of P16.6.
func (l *ledger) noteAll() {
	for i := range l {
		l[i].noted = l[i].reads
	}
}

// due is a part of P16.6.
func (l ledger) due() bool {
	for _, b := range l {
		if b.reads >= b.noted+64 {
			return true
		}
	}
	return false
}

func (l ledger) reads() []int {
	var out []int
	for _, b := range l {
		out = append(out, b.reads)
	}
	return out
}

func (l ledger) scores() []int {
	var out []int
	for _, b := range l {
		out = append(out, b.score)
	}
	return out
}

// blocks are all there are.
func blocks() []int { return []int{0, 1, 2, 3, 4, 5, 6, 7, 8, 9, 10, 11} }

// noBlocks are those next to them, some that are among them once they are cut down to fewer bits, both ends of their type.
func noBlocks() []int {
	return []int{
		math.MinInt, math.MinInt + 1, math.MinInt32, -1 << 32, -256, -255, -13, -12, -11, -2, -1,
		12, 13, 24, 128, 255, 256, 257, 1 << 16, 1<<31 - 1, 1 << 32, 1<<32 + 1, 1 << 61, 1 << 62, math.MaxInt - 1, math.MaxInt,
	}
}

// twelve are so many noughts, but one number at a block.
func twelve(at, number int) []int {
	list := make([]int, 12)
	list[at] = number
	return list
}

// each is one number twelve times.
func each(number int) []int { return slices.Repeat([]int{number}, 12) }

// begun is a new Health of two lists, and how it stands.
func begun(t *testing.T, reads, scores []int) (*health.Health, ledger) {
	t.Helper()
	h, err := health.New(reads, scores)
	if h == nil || err != nil {
		t.Fatalf("New(%v, %v): %v, %v", reads, scores, h, err)
	}
	l := started(reads, scores)
	wantStands(t, h, l)
	return h, l
}

// fresh is one that counts on from noughts.
func fresh(t *testing.T) (*health.Health, ledger) {
	t.Helper()
	return begun(t, make([]int, 12), make([]int, 12))
}

// wantNone begins with lists that may not be.
func wantNone(t *testing.T, reads, scores []int) {
	t.Helper()
	if h, err := health.New(reads, scores); h != nil || err != api.ErrArg {
		t.Errorf("New(%v, %v): %v, %v, want nil, %v", reads, scores, h, err, api.ErrArg)
	}
}

// wantStands asks a Health for everything that doesn't change it, twice: to ask is to do nothing.
func wantStands(t *testing.T, h *health.Health, l ledger) {
	t.Helper()
	for range 2 {
		if got := h.Reads(); !slices.Equal(got, l.reads()) {
			t.Fatalf("Reads(): %v, want %v", got, l.reads())
		}
		if got := h.Scores(); !slices.Equal(got, l.scores()) {
			t.Fatalf("Scores(): %v, want %v", got, l.scores())
		}
		if got := h.Due(); got != l.due() {
			t.Fatalf("Due(): %v, want %v: %+v", got, l.due(), l)
		}
		for i, b := range l {
			wantTired(t, h, i, b.reads >= 512, nil)
			wantWeak(t, h, i, b.score >= 3, nil)
		}
	}
}

func wantTired(t *testing.T, h *health.Health, at int, want bool, wrong error) {
	t.Helper()
	if is, err := h.Tired(at); is != want || err != wrong {
		t.Fatalf("Tired(%d): %v, %v, want %v, %v", at, is, err, want, wrong)
	}
}

func wantWeak(t *testing.T, h *health.Health, at int, want bool, wrong error) {
	t.Helper()
	if is, err := h.Weak(at); is != want || err != wrong {
		t.Fatalf("Weak(%d): %v, %v, want %v, %v", at, is, err, want, wrong)
	}
}

// wantRead reads a block, on both sides.
func wantRead(t *testing.T, h *health.Health, l *ledger, at int) {
	t.Helper()
	if got, want := h.Read(at), l.read(at); got != want {
		t.Fatalf("Read(%d): %v, want %v", at, got, want)
	}
}

// wantReport reports a block, on both sides.
func wantReport(t *testing.T, h *health.Health, l *ledger, at int) {
	t.Helper()
	if got, want := h.Report(at), l.report(at); got != want {
		t.Fatalf("Report(%d): %v, want %v", at, got, want)
	}
}

// wantErased erases a block, on both sides.
func wantErased(t *testing.T, h *health.Health, l *ledger, at int) {
	t.Helper()
	if got, want := h.Erased(at), l.erased(at); got != want {
		t.Fatalf("Erased(%d): %v, want %v", at, got, want)
	}
}

// noted writes the reads down, on both sides.
func noted(h *health.Health, l *ledger) {
	h.Noted()
	l.noteAll()
}

// source gives numbers that hang on its start alone.
type source uint64

func (s *source) next() uint64 {
	*s = *s*6364136223846793005 + 1442695040888963407
	return uint64(*s) >> 31
}

func (s *source) below(n int) int { return int(s.next() % uint64(n)) }

func (s *source) of(list []int) int { return list[s.below(len(list))] }

// counts are twelve numbers, any of these.
func (s *source) counts(of ...int) []int {
	list := make([]int, 12)
	for i := range list {
		list[i] = s.of(of)
	}
	return list
}

// reads and scores are counts to begin with: those at which an answer turns among them.
func (s *source) reads() []int {
	return s.counts(0, 0, 1, 63, 64, 300, 500, 511, 512, 600, 65400, 65471, 65472, 65534, 65535, 65536, math.MaxInt)
}

func (s *source) scores() []int {
	return s.counts(0, 0, 1, 2, 3, 4, 100, 254, 255, 256, math.MaxInt)
}

// turn is a call of any kind; the answer is as told. It says of which kind, and of which block.
func (s *source) turn(t *testing.T, h *health.Health, l *ledger) (kind, at int) {
	t.Helper()
	kind, at = s.below(200), s.below(12)
	if s.below(20) == 0 {
		at = s.of(noBlocks())
	}
	switch {
	case kind == 0:
		noted(h, l)
	case kind < 6:
		wantErased(t, h, l, at)
	case kind < 20:
		wantReport(t, h, l, at)
	default:
		wantRead(t, h, l, at)
	}
	return kind, at
}
