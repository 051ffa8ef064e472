package judge_test

import (
	"fmt"
	"slices"
	"strings"
	"testing"

	"patina/api"
	"patina/judge"
	"patina/media"
	"patina/nand"
)

// P23.3 (T1, T2, T5): whatever text is played, the last line is held.

// wantHeld plays a text: it is held, and each line is as the world beside which it was drawn answered.
func wantHeld(t *testing.T, name string, d *drawer) {
	t.Helper()
	text := d.text(t)
	lines, err := judge.Play(text)
	if err != nil || !strings.HasSuffix(lines, "\nheld\n") {
		t.Fatalf("%s: %v, it ends with %q; the text is\n%s", name, err, lines[max(0, len(lines)-20):], text)
	}
	if want := linesTold(d.l); lines != want {
		t.Fatalf("%s: %s; the text is\n%s", name, parting(lines, want), text)
	}
}

// tally counts what came in runs.
type tally struct {
	codes  [20]int
	marks  [3]int // of the sectors that were read, with bytes or without
	broken int    // runs that are
	worn   int
	steps  int
}

// add counts one more run.
func (c *tally) add(d *drawer) {
	ahead := api.Look{On: true}
	for _, e := range d.l {
		c.codes[e.Reply.Code]++
		if e.Step.Kind == 1 && (e.Reply.Code == 0 || e.Reply.Code == api.ErrMedia) {
			c.marks[ahead.Marks[e.Step.A]]++
		}
		ahead = e.Look
	}
	if ahead.Broken {
		c.broken++
	}
	if ahead.Worn {
		c.worn++
	}
	c.steps += len(d.l)
}

// join counts the runs of another tally; nil: of none.
func (c *tally) join(of *tally) {
	if of == nil {
		return
	}
	for code, many := range of.codes {
		c.codes[code] += many
	}
	for mark, many := range of.marks {
		c.marks[mark] += many
	}
	c.broken += of.broken
	c.worn += of.worn
	c.steps += of.steps
}

// want holds that each of these Codes was answered so often, at the least.
func (c *tally) want(t *testing.T, many int, codes ...api.Code) {
	t.Helper()
	for _, code := range codes {
		if c.codes[code] < many {
			t.Errorf("%v was answered %d times in %d steps", code, c.codes[code], c.steps)
		}
	}
}

// runs draws and plays texts, one for each start.
func runs(t *testing.T, many int, one func(start int) *drawer) *tally {
	t.Helper()
	c := &tally{}
	for start := range many {
		d := one(start)
		wantHeld(t, fmt.Sprintf("start %d", start), d)
		c.add(d)
	}
	return c
}

// All harm together, drawn anew for each text.
func TestTextsOfAllHarm(t *testing.T) {
	t.Parallel()
	parts := make([]*tally, 6)
	t.Run("parts", func(t *testing.T) {
		for part := range parts {
			t.Run(fmt.Sprint(part), func(t *testing.T) {
				t.Parallel()
				parts[part] = runs(t, 12, func(start int) *drawer {
					from := source(1000*part + start)
					return draw(1000*part+start, from.drawn(), []int{40, 90, 150}[start%3])
				})
			})
		}
	})
	all := &tally{}
	for _, c := range parts {
		all.join(c)
	}
	if all.broken > 0 || all.worn < 10 || slices.Min(all.marks[:]) < 100 {
		t.Errorf("%+v", all)
	}
	all.want(t, 100, 0, api.ErrArg, api.ErrPower, api.ErrState, api.ErrMedia, api.ErrWornOut, api.ErrNotMounted)
}

// Calls and mounts, without harm.
func TestTextsOfCalls(t *testing.T) {
	t.Parallel()
	c := runs(t, 4, func(start int) *drawer { return draw(20000+start, harms{wrong: 4, sectors: 1 + 5*start}, 250) })
	if c.broken+c.worn > 0 || c.codes[api.ErrMedia]+c.codes[api.ErrWornOut] > 0 {
		t.Errorf("%+v", c)
	}
	c.want(t, 20, 0, api.ErrArg)
}

// The power goes on and on, in calls and mounts; each step of a call is met.
func TestTextsOfCuts(t *testing.T) {
	t.Parallel()
	c := runs(t, 8, func(start int) *drawer {
		return draw(21000+start, harms{cuts: 1 + start%3, budget: []int{3, 8, 30, 120}[start%4], sectors: 1 + start}, 120)
	})
	if c.broken+c.worn > 0 || c.codes[api.ErrMedia]+c.codes[api.ErrWornOut] > 0 {
		t.Errorf("%+v", c)
	}
	c.want(t, 300, api.ErrPower)
}

// Bytes of sectors are lost, and the power goes between.
func TestTextsOfLoss(t *testing.T) {
	t.Parallel()
	c := runs(t, 8, func(start int) *drawer {
		return draw(22000+start, harms{bits: 2, burst: 5, data: []int{3, 4, 6, 20}[start%4], cuts: start % 2 * 7, budget: 40, sectors: 24}, 100)
	})
	if c.broken+c.worn > 0 || slices.Min(c.marks[:]) < 20 {
		t.Errorf("%+v", c)
	}
	c.want(t, 50, api.ErrMedia)
}

// Blocks fail, one behind the other, and the power goes between.
func TestTextsOfFailures(t *testing.T) {
	t.Parallel()
	c := runs(t, 12, func(start int) *drawer {
		return draw(23000+start, harms{fails: 1 + start%4*6, blocks: 1 + start, cuts: start % 3 * 4, budget: 60, sectors: 24}, 120)
	})
	if c.broken > 0 || c.worn < 3 || c.worn == 12 || c.codes[api.ErrMedia] > 0 {
		t.Errorf("%+v", c)
	}
	c.want(t, 30, api.ErrWornOut, api.ErrPower)
}

// Bits turn anywhere, until the chip is broken and behind that: nothing is asked then, and nothing panics.
func TestTextsOfBlindHarm(t *testing.T) {
	t.Parallel()
	c := runs(t, 12, func(start int) *drawer {
		return draw(24000+start, harms{bits: 1 + start*start, burst: 1 << (start % 6), data: 2 + start%9, blind: true, fails: start % 2 * 9, blocks: start, cuts: start % 4 * 5, budget: 30, wrong: 9, sectors: 24}, 60)
	})
	if c.broken < 4 || c.broken == 12 {
		t.Errorf("%d runs are broken", c.broken)
	}
}

// Steps in any order, whether the device is mounted or not, and whether the power is on.
func TestTextsOfAnySteps(t *testing.T) {
	t.Parallel()
	c := runs(t, 40, func(start int) *drawer {
		d := draw(25000+start, harms{sectors: 24}, 0)
		for range 250 {
			a, b := d.below(26)-1, d.below(300)-1
			switch kind := 1 + d.below(10); kind {
			case 1, 3, 8, 9:
				d.do(kind, a)
			case 4, 5, 10:
				d.do(kind)
			case 6:
				if d.below(8) == 0 {
					d.do(6, d.below(98)-1, d.below(2050)-1)
				}
			case 7:
				if d.below(8) == 0 {
					d.do(7, d.below(14)-1, b)
				}
			default:
				d.do(kind, a, b)
			}
		}
		return d
	})
	c.want(t, 100, 0, api.ErrArg, api.ErrPower, api.ErrState, api.ErrNotMounted)
	if c.broken > 35 {
		t.Errorf("%d of 40 runs are broken", c.broken)
	}
}

// A call is cut behind each number of steps, and then mounts are, behind others; all sectors are read behind that.
func TestTextsOfEachCut(t *testing.T) {
	t.Parallel()
	for kind := 1; kind <= 3; kind++ {
		t.Run(fmt.Sprint("kind ", kind), func(t *testing.T) {
			t.Parallel()
			cuts := 0
			for budget := range 36 {
				d := begun(26000+40*kind+budget, harms{bits: 2, burst: 4, data: 2, sectors: 24})
				d.calls(40)
				d.decay()
				d.do(9, budget)
				// A call that does less is followed by others, until the power goes.
				for round := 0; d.w.Look().Mounted && round < 40; round++ {
					d.sectorCall(kind, round%24)
				}
				for round := range 4 {
					d.do(10)
					d.do(9, (budget+5*round)%14)
					d.do(4)
				}
				d.readAll()
				if d.w.Look() != (api.Look{On: true, Mounted: true}) {
					t.Fatalf("Look: %s", lookShown(d.w.Look()))
				}
				wantHeld(t, fmt.Sprint("behind ", budget), d)
				for _, e := range d.l {
					if e.Reply.Code == api.ErrPower {
						cuts++
					}
				}
			}
			if cuts < 50 {
				t.Errorf("only %d cuts", cuts)
			}
		})
	}
}

// Sectors that are written once, and moved again and again: more often than there are copies to tell one move from the next; and the power goes between.
func TestTextsOfManyMoves(t *testing.T) {
	t.Parallel()
	d := begun(28000, harms{data: 2, sectors: 3})
	d.readAll()
	for sector := range 3 {
		d.do(2, sector, 70+sector)
	}
	turns := 0 // of sectors whose copies began again at 0
	var last [3]int
	for round := 0; turns < 3 && round < 2000; round++ {
		d.mount()
		if d.below(12) == 0 {
			d.do(9, d.below(20))
		}
		sector := round % 3
		live, _ := counting(d.w.Chip())
		chunk := d.below(4)
		for _, at := range []int{d.below(256), 256 + d.below(256)} {
			d.do(6, live[sector], 512*chunk+at)
		}
		d.do(1, sector)
		d.mount()
		d.do(1, sector)
		for of, copy := range copiesOf(d.w.Chip()) {
			if copy < last[of] {
				turns++
			}
			last[of] = copy
		}
	}
	d.readAll()
	if turns < 3 || d.w.Look().Broken {
		t.Errorf("%d turns, in %d steps; Look: %s", turns, len(d.l), lookShown(d.w.Look()))
	}
	wantHeld(t, "many moves", d)
}

// copiesOf are the copies of the first three sectors, as what counts tells them.
func copiesOf(chip *nand.Chip) (copies [3]int) {
	live, _ := counting(chip)
	chip = chip.Clone()
	chip.Power()
	for of := range copies {
		page, _ := media.New(chip).Read(live[of])
		copies[of] = page.Tag.Copy
	}
	return copies
}

// The longest text that Parse takes.
func TestTheLongestText(t *testing.T) {
	t.Parallel()
	text := "mount\n"
	for i := 0; ; i++ {
		line := fmt.Sprintf("write %d %d\nread %d\ntrim %d\n", i%24, i, (i+3)%24, (i+5)%24)
		if len(text)+len(line) > 65536 {
			break
		}
		text += line
	}
	text += strings.Repeat(" ", 65536-len(text))
	lines, err := judge.Play(text)
	if err != nil || !strings.HasSuffix(lines, "\nheld\n") || strings.Count(lines, "\n") != 1+strings.Count(text, "\n") {
		t.Fatalf("%v, it ends with %q", err, lines[max(0, len(lines)-20):])
	}
	if _, err := judge.Play(text + " "); err != api.ErrLong {
		t.Errorf("one byte more: %v", err)
	}
}

// What worlds answered, with one reply changed: it is judged as it is told, and where a Whole sector was read it is named.
func TestOneReplyChanged(t *testing.T) {
	t.Parallel()
	named := 0
	for start := range 8 {
		from := source(27000 + start)
		d := draw(27000+start, from.drawn(), 40)
		want(t, "as it was", d.l, -1)
		ahead := api.Look{On: true}
		for i, e := range d.l {
			for _, r := range otherReplies(e.Reply, &from) {
				l := slices.Clone(d.l)
				l[i].Reply = r
				number := wantAsTold(t, l)
				if number == i {
					named++
				} else if e.Step.Kind == 1 && ahead.Mounted && r.Code == 0 && !e.Look.Broken && e.Step.A >= 0 && e.Step.A < 24 && ahead.Marks[e.Step.A] == 0 && e.Reply.Code == 0 {
					t.Fatalf("other bytes of a Whole sector: %d, want %d", number, i)
				}
			}
			ahead = e.Look
		}
	}
	if named < 5000 {
		t.Errorf("%d were named", named)
	}
}

// otherReplies are some that a step didn't answer.
func otherReplies(r api.Reply, from *source) []api.Reply {
	var l []api.Reply
	for _, c := range []api.Code{0, api.ErrArg, api.ErrPower, api.ErrState, api.ErrMedia, api.ErrWornOut, api.ErrNotMounted, api.ErrForm} {
		if c != r.Code {
			l = append(l, code(c))
		}
	}
	if len(r.Data) == 160 {
		changed := slices.Clone(r.Data)
		changed[from.below(160)] ^= 1 << from.below(8)
		return append(l, data(changed), data(r.Data[:159]), data(append(slices.Clone(r.Data), 0)))
	}
	return append(l, data(noughts()), api.Reply{Code: r.Code, Data: noughts()})
}
