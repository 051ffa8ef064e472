package world_test

import (
	"bytes"
	"math"
	"slices"
	"testing"

	"patina/api"
	"patina/dev"
	"patina/nand"
	"patina/world"
)

// P22.2.

// A pair is a world, and a chip and a device beside it of which the calls are asked that the world's steps stand for.
type pair struct {
	*testing.T
	w    *world.World
	chip *nand.Chip
	dev  *dev.Device
	told map[int]map[api.Code]int // how often a kind answered a Code
}

func newPair(t *testing.T) *pair {
	t.Helper()
	chip := nand.New()
	device, err := dev.New(chip)
	if err != nil {
		t.Fatal(err)
	}
	return &pair{T: t, w: world.New(), chip: chip, dev: device, told: map[int]map[api.Code]int{}}
}

// filled are 160 bytes: the byte i is v and 7 i.
func filled(v int) []byte {
	b := make([]byte, 160)
	for i := range b {
		b[i] = byte(v%256 + 7*i)
	}
	return b
}

// call makes the call that a step stands for.
func (p *pair) call(s api.Step) (data []byte, err error) {
	calls := map[int]func(){
		1:  func() { data, err = p.dev.Read(s.A) },
		2:  func() { err = p.dev.Write(s.A, filled(s.B)) },
		3:  func() { err = p.dev.Trim(s.A) },
		4:  func() { err = p.dev.Mount() },
		5:  func() { _, err = p.dev.Report() },
		6:  func() { err = p.chip.Flip(s.A, s.B) },
		7:  func() { err = p.chip.FailProgram(s.A, s.B) },
		8:  func() { err = p.chip.FailErase(s.A) },
		9:  func() { err = p.chip.Cut(s.A) },
		10: func() { p.chip.Power() },
	}
	if do := calls[s.Kind]; do != nil {
		do()
		return data, err
	}
	return nil, api.ErrForm
}

// do does a step in the world, and makes its call beside it: they answer alike, and all stands alike behind them.
func (p *pair) do(s api.Step) api.Code {
	p.Helper()
	data, err := p.call(s)
	var want api.Code
	if err != nil {
		want = err.(api.Code)
	}
	r := p.w.Do(s)
	if r.Code != want || !bytes.Equal(r.Data, data) || (r.Data == nil) != (data == nil) {
		p.Fatalf("%v: %v, want %v, %v", s, r, want, data)
	}
	p.wantAlike(s)
	if p.told[s.Kind] == nil {
		p.told[s.Kind] = map[api.Code]int{}
	}
	p.told[s.Kind][want]++
	return want
}

// wantAlike holds the two chips and the two devices to stand alike.
func (p *pair) wantAlike(s api.Step) {
	p.Helper()
	if !sameChip(p.w.Chip(), p.chip) {
		p.Fatalf("behind %v the chips stand otherwise", s)
	}
	got, err := p.w.View()
	want, wrong := p.dev.Report()
	if got != want || err != wrong {
		p.Fatalf("behind %v: View(): %+v, %v, want %+v, %v", s, got, err, want, wrong)
	}
}

// everything is a run of steps of all kinds, with any numbers.
func (p *pair) everything(from *source, steps int) {
	p.Helper()
	for range steps {
		s := anyCall(from)
		switch kind := from.below(24); {
		case kind < 1:
			v, _ := p.w.View()
			place := max(v.Live[from.below(24)], 0)
			for i := range 4 {
				p.do(flipOf(place, 0, i))
			}
		case kind < 4:
			s = step(6, from.below(96), from.below(2048))
		case kind < 5:
			s = anyFailure(from)
		case kind < 6:
			s = step(9, from.below(30))
		case kind < 8:
			s = step(10)
		case kind < 10:
			s = step(4)
		case kind < 12:
			s = anyWrong(from)
		}
		p.do(s)
	}
}

func TestDoAsTheCalls(t *testing.T) {
	t.Parallel()
	told := map[int]map[api.Code]int{}
	for start := range 24 {
		from := source(700 + start)
		p := newPair(t)
		p.everything(&from, 150)
		for kind, codes := range p.told {
			for code, many := range codes {
				if told[kind] == nil {
					told[kind] = map[api.Code]int{}
				}
				told[kind][code] += many
			}
		}
	}
	for kind, codes := range map[int][]api.Code{
		1:  {0, api.ErrNotMounted, api.ErrArg, api.ErrPower, api.ErrMedia},
		2:  {0, api.ErrNotMounted, api.ErrArg, api.ErrPower, api.ErrWornOut},
		3:  {0, api.ErrNotMounted, api.ErrArg, api.ErrPower, api.ErrWornOut},
		4:  {0, api.ErrState, api.ErrPower},
		5:  {0, api.ErrNotMounted},
		6:  {0, api.ErrArg},
		7:  {0, api.ErrArg},
		8:  {0, api.ErrArg},
		9:  {0, api.ErrArg},
		10: {0},
		0:  {api.ErrForm},
		11: {api.ErrForm},
		12: {api.ErrForm},
		-1: {api.ErrForm},
	} {
		for _, code := range codes {
			if told[kind][code] == 0 {
				t.Errorf("the kind %d never answered %v", kind, code)
			}
		}
		if len(told[kind]) > len(codes) {
			t.Errorf("the kind %d answered %v", kind, told[kind])
		}
	}
}

// stands are the ways a world may stand: mounted or not, with the power on, to go, or off.
func stands() map[string][]api.Step {
	return map[string][]api.Step{
		"new":                nil,
		"mounted":            {step(4), step(2, 3, 3)},
		"the power is to go": {step(4), step(2, 3, 3), step(9, 0)},
		"off":                {step(4), step(2, 3, 3), step(9, 0), step(2, 3, 4)},
		"on again":           {step(4), step(2, 3, 3), step(9, 0), step(2, 3, 4), step(10)},
	}
}

// standing is a pair that stands in a way.
func standing(t *testing.T, steps []api.Step) *pair {
	t.Helper()
	p := newPair(t)
	for _, s := range steps {
		p.do(s)
	}
	return p
}

// edges are numbers at the ends of what may be, and far from it.
func edges() []int {
	return []int{0, 1, -1, 5, 11, 12, 23, 24, 25, 95, 96, 255, 256, 2047, 2048, 1 << 16, 1 << 32, 1<<32 + 3, -1 << 32, math.MaxInt, math.MinInt}
}

// Every kind with every two of these numbers, in each way that a world may stand.
func TestEveryKindAtTheEdges(t *testing.T) {
	t.Parallel()
	for name, steps := range stands() {
		t.Run(name, func(t *testing.T) {
			t.Parallel()
			for kind := -1; kind <= 12; kind++ {
				p := standing(t, steps)
				for _, a := range edges() {
					for _, b := range edges() {
						p.do(step(kind, a, b))
						if kind < 4 && b != a {
							break // a sector more often than twice tells nothing new
						}
					}
				}
			}
		})
	}
}

// Of a kind that isn't 1 to 10 nothing is done, and nothing else is seen.
func TestOtherKinds(t *testing.T) {
	kinds := []int{0, -1, 11, 12, 13, 100, 255, 256, 257, 266, 1 << 16, 1 << 32, 1<<32 + 1, 1<<32 + 10, -1 << 32, math.MaxInt, math.MinInt, math.MinInt + 1}
	for name, steps := range stands() {
		w := world.New()
		w.Run(steps)
		look := w.Look()
		view, err := w.View()
		was := w.Chip().Clone()
		for _, kind := range kinds {
			for _, a := range edges() {
				if r := w.Do(step(kind, a, 3)); r.Code != api.ErrForm || r.Data != nil {
					t.Fatalf("%s: {%d %d 3}: %v", name, kind, a, r)
				}
			}
		}
		v, wrong := w.View()
		if w.Look() != look || v != view || err != wrong || !sameChip(w.Chip(), was) {
			t.Errorf("%s: something was done", name)
		}
	}
	// A budget that is left is left: the fourth chunk isn't cut off.
	w := world.New()
	w.Run([]api.Step{step(4), step(9, 4), step(11), step(0, 5, 5), step(-10)})
	if r := w.Do(step(2, 3, 3)); r.Code != 0 || !w.Look().On {
		t.Errorf("write 3 3: %v", r)
	}
}

// Numbers that a kind doesn't have are not looked at.
func TestNumbersThatAKindDoesNotHave(t *testing.T) {
	t.Parallel()
	var plain []api.Step
	for i := range 12 {
		plain = append(plain, step(4), step(2, i, i), step(1, i), step(5), step(3, i%5), step(6, i, 9*i), step(7, 11-i, 20), step(8, 11), step(9, 3*i), step(1, i), step(2, 3, i), step(10))
	}
	want := world.New().Run(plain)
	for _, a := range []int{1, -1, 24, 96, math.MaxInt, math.MinInt} {
		w := world.New()
		for i, s := range plain {
			if slices.Contains([]int{4, 5, 10}, s.Kind) {
				s.A = a
			}
			if !slices.Contains([]int{2, 6, 7}, s.Kind) {
				s.B = a - 1
			}
			r := w.Do(s)
			if r.Code != want[i].Reply.Code || !bytes.Equal(r.Data, want[i].Reply.Data) || w.Look() != want[i].Look {
				t.Fatalf("step %d, %v: %v, %+v, want %+v", i, s, r, w.Look(), want[i])
			}
		}
	}
}

// Power answers 0, with the power on or off, and takes a budget away.
func TestPower(t *testing.T) {
	p := standing(t, stands()["mounted"])
	p.do(step(10))
	p.do(step(9, 2))
	if p.do(step(10)) != 0 || p.do(step(2, 3, 9)) != 0 {
		t.Error("the budget holds still")
	}
	p.do(step(9, 2))
	if p.do(step(2, 3, 10)) != api.ErrPower || p.do(step(10)) != 0 || p.do(step(4)) != 0 || p.do(step(1, 3)) != 0 {
		t.Error("the power isn't on")
	}
}

// What is written is Fill of the number, of any.
func TestWhatIsWritten(t *testing.T) {
	w := world.New()
	w.Do(step(4))
	for i, v := range []int{0, 1, 5, 255, 256, -1, -255, -256, 1 << 40, math.MaxInt, math.MinInt, 7, 160} {
		if r := w.Do(step(2, i, v)); r.Code != 0 || r.Data != nil {
			t.Fatalf("write %d %d: %v", i, v, r)
		}
		if r := w.Do(step(1, i)); r.Code != 0 || !bytes.Equal(r.Data, filled(v)) {
			t.Errorf("write %d %d: it reads as %v", i, v, r.Data)
		}
	}
}
