package dev_test

import (
	"strings"
	"testing"

	"patina/api"
	"patina/mount"
	"patina/move"
	"patina/nand"
)

// T5: calls that are cut off behind each number of their steps, and the mounts that follow, cut again at each of theirs: the array is as ahead of the call, or as behind it, and from then on it stays so.

// cut does a deed, whose power goes behind so many steps; false: it was done within them.
func (d *disk) cut(e deed, budget int) bool {
	d.Helper()
	d.chip.Cut(budget)
	err := e.do(d)
	d.chip.Power()
	if err != nil && err != api.ErrPower && !(err == api.ErrWornOut && d.worn) {
		d.Fatalf("%s behind %d steps: %v", e.name, budget, err)
	}
	d.settle()
	return err == api.ErrPower
}

// chain cuts mounts at each of their steps, one after the other, until one is done.
func (d *disk) chain() int {
	d.Helper()
	steps := 0
	for d.cutMount(steps) {
		steps++
	}
	return steps
}

// wantFound holds a disk that was found again to be as it is to be, behind calls and a mount more.
func (d *disk) wantFound() {
	d.Helper()
	for _, of := range []int{2, 3, 4, 23} {
		d.must(d.read(of))
	}
	d.write(11, text(11, 900))
	d.again()
	d.must(d.read(11))
}

// oneCutIn: of these cuts one in so many is tried, of the chains of cut mounts behind them one in so many more. All of them take too long for each run.
const (
	oneCutIn   = 4
	oneChainIn = 6
)

func TestCutsOfEachCall(t *testing.T) {
	t.Parallel()
	for i, g := range grounds(t) {
		t.Run(g.name, func(t *testing.T) {
			t.Parallel()
			cuts, tries := 0, 0
			for j, e := range deeds() {
				for budget := (i + j) % oneCutIn; ; budget += oneCutIn {
					d := g.set(t, e)
					if !d.cut(e, budget) {
						break
					}
					cuts++
					if tries++; tries%oneChainIn == 0 {
						d.chain()
					} else {
						d.mustMount()
					}
					d.wantFound()
				}
			}
			if cuts < 60 {
				t.Errorf("only %d cuts", cuts)
			}
		})
	}
}

// The calls do what they are called for: blocks are refreshed and retired, checkpoints programmed, all of it in calls that are cut above.
func TestWhatTheCallsDo(t *testing.T) {
	t.Parallel()
	for _, g := range grounds(t) {
		for _, e := range deeds() {
			d := g.set(t, e)
			was, steps := d.view(), d.chip.Steps()
			d.must(e.do(d))
			v := d.view()
			done := true
			switch _, way, _ := strings.Cut(e.name, ": "); way {
			case "nothing":
				done = d.chip.Steps() > steps || strings.HasPrefix(e.name, "read")
			case "refresh", "two tasks":
				done = v.Reports > was.Reports || v.Moves > was.Moves // it may have been the block that was cleared for a write
			case "retire":
				done = v.Reports > was.Reports && (count(v.States, api.Bad) > count(was.States, api.Bad) || count(was.States, api.Bad) == 2)
			case "due":
				done = v.Next > was.Next && (v.Calls == 0 || strings.HasPrefix(e.name, "trim"))
			}
			if moved := g.name == "brimming" && strings.HasPrefix(e.name, "write"); !done || moved && v.Moves == was.Moves {
				t.Errorf("%s, %s: Report() was %+v, and is %+v", g.name, e.name, was, v)
			}
		}
	}
}

// harm makes a block fail: at the write behind so many, or, if these are below 0, at its next erase.
type harm struct{ block, after int }

func (h harm) doTo(chip *nand.Chip) {
	if h.after < 0 {
		chip.FailErase(h.block)
		return
	}
	chip.FailProgram(h.block, h.after)
}

// harmsOf are the harms by which each step that was done between two sights of a chip fails, one at a time.
func harmsOf(was, is *nand.Chip) []harm {
	var list []harm
	for block := range 12 {
		writes, gone := 0, false
		for place := 8 * block; place < 8*block+8; place++ {
			for chunk := range 4 {
				_, before, _ := was.Truth(place, chunk)
				_, behind, _ := is.Truth(place, chunk)
				if behind && !before {
					writes++
				}
				gone = gone || before && !behind
			}
		}
		for after := range writes {
			list = append(list, harm{block, after})
		}
		if gone {
			list = append(list, harm{block, -1})
		}
	}
	return list
}

// harmsOfDeed are the harms that meet a deed.
func harmsOfDeed(t *testing.T, g ground, e deed) []harm {
	t.Helper()
	d := g.set(t, e)
	was := d.chip.Clone()
	d.must(e.do(d))
	return harmsOf(was, d.chip)
}

// A block fails at each step of each call, without a cut: it is done, or it answers ErrWornOut, where two blocks were bad.
func TestCallsInWhichABlockFails(t *testing.T) {
	t.Parallel()
	for i, g := range grounds(t) {
		t.Run(g.name, func(t *testing.T) {
			t.Parallel()
			for j, e := range deeds() {
				for k, h := range harmsOfDeed(t, g, e) {
					if (i+j+k)%7 > 0 {
						continue
					}
					d := g.set(t, e)
					bad := count(d.view().States, api.Bad)
					h.doTo(d.chip)
					if err := e.do(d); err != nil && !d.worn {
						t.Fatalf("%s, %v: %v", e.name, h, err)
					}
					// One block fails, and one may be retired.
					if d.worn && bad == 0 {
						t.Fatalf("%s, %v: it is worn out", e.name, h)
					}
					d.wantFound()
				}
			}
		})
	}
}

// A block fails at some step of a call, and the power goes at some step of it, ahead of the failure, at it, or behind it; and in the mounts.
func TestCutsOfCallsInWhichABlockFails(t *testing.T) {
	t.Parallel()
	for i, g := range grounds(t) {
		t.Run(g.name, func(t *testing.T) {
			t.Parallel()
			s := source(1000 + i)
			cuts := 0
			for _, e := range deeds() {
				list := harmsOfDeed(t, g, e)
				if len(list) == 0 {
					continue
				}
				for range 6 {
					d := g.set(t, e)
					list[s.below(len(list))].doTo(d.chip)
					if !d.cut(e, s.below(len(list)+20)) {
						continue
					}
					cuts++
					for !d.mounted && s.below(2) == 0 {
						d.cutMount(s.below(20))
					}
					if !d.mounted {
						d.mustMount()
					}
					d.wantFound()
				}
			}
			if cuts < 20 {
				t.Errorf("only %d cuts", cuts)
			}
		})
	}
}

// The same call cut at the same step, over and over, with a mount between: it is done at last, or never, and nothing is worn by it.
func TestTheSameCutOverAndOver(t *testing.T) {
	t.Parallel()
	for budget := range 12 {
		d := newDisk(t)
		d.fill(0)
		for turn := range 12 {
			d.chip.Cut(budget)
			d.write(7, text(7, 100+turn))
			d.settle()
			d.chip.Power()
			if !d.mounted {
				d.mustMount()
			}
			want := string(text(7, 100+turn))
			if done := d.may[7][0] == want; done != (budget >= 4) {
				t.Fatalf("turn %d, cut behind %d steps: done %v", turn, budget, done)
			}
		}
		if v := d.view(); count(v.States, api.Bad) > 0 || d.worn || v.Reports > 0 {
			t.Errorf("Report(): %+v", v)
		}
		d.wantSound()
	}
}

// Long runs of calls of which most are cut, and of mounts of which most are.
func TestRunsOfCuts(t *testing.T) {
	t.Parallel()
	cuts := 0
	for start := range 6 {
		s := source(1100 + start)
		d := newDisk(t)
		for turn := range 60 {
			d.chip.Cut(s.below(8))
			d.turn(&s, turn)
			d.settle()
			for !d.mounted {
				d.cutMount(s.below(14))
			}
			d.chip.Power()
		}
		cuts += d.cuts
		d.wantSound()
	}
	if cuts < 80 {
		t.Errorf("only %d cuts", cuts)
	}
}

// weakened is a full disk of which the block 0 was reported twice.
func weakened(t *testing.T) *disk {
	t.Helper()
	chip := full(t).chip
	l, err := mount.Scan(chip)
	if err != nil {
		t.Fatal(err)
	}
	k := seen(t, chip).point
	k.Scores[0], k.Cursor = 2, 8
	core, err := move.New(chip, k, l)
	if err != nil || core.Clean() != nil || core.Note() != nil {
		t.Fatal("no core")
	}
	return mounted(t, chip)
}

// A report that a cut took away: the page was read damaged in a call in which another block was retired, whose checkpoint tells a cursor behind that page. It is read again within twelve answered calls.
func TestAReportThatIsCutOff(t *testing.T) {
	t.Parallel()
	late := 0
	for budget := 0; ; budget++ {
		d := weakened(t)
		if v := d.view(); v.Cursor != 8 || v.Scores != [12]int{2} {
			t.Fatalf("Report(): %+v", v)
		}
		weak, of := inBlock(d.view(), 0)[0], inBlock(d.view(), 1)[0]
		place := d.sight.live[of]
		d.hurt(d.sight.live[weak], 0, 2)
		d.hurt(place, 0, 2)
		d.chip.Cut(budget)
		err := d.read(weak)
		d.chip.Power()
		if err == nil {
			break
		}
		d.mustMount()
		d.answered = 0
		for d.sight.live[of] == place {
			d.must(d.read(d.elsewhere(place)))
		}
		if d.answered > 12 {
			t.Errorf("cut behind %d steps: %d calls", budget, d.answered)
		}
		late = max(late, d.answered)
	}
	if late != 12 {
		t.Errorf("it was found behind %d calls at the latest", late)
	}
}
