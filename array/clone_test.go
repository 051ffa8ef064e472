package array_test

import (
	"slices"
	"testing"

	"patina/array"
)

// P20.3.

// Of arrays that stand in all ways: new, full, and some sectors written.
func TestCloneStandsAlike(t *testing.T) {
	s := source(21)
	for round := range 60 {
		a, l := array.New(), lay{}
		for range round * 2 {
			s.turn(t, a, l)
		}
		c := a.Clone()
		if c == nil || c == a {
			t.Fatal("Clone is no other array")
		}
		wantStands(t, c, l)
		wantStands(t, a, l)
		wantDiffer(t, a, c, nil)
		wantDiffer(t, c, a, nil)
	}
}

// In either direction, by a Write and by a Trim, of each sector.
func TestNeitherSeesWhatIsDoneToTheOther(t *testing.T) {
	for _, sector := range sectors() {
		for way := range 4 {
			a, l := full(t, 60)
			c, m := a.Clone(), l.kept()
			one, of := a, l
			if way%2 == 1 {
				one, of = c, m
			}
			if way < 2 {
				wantWrite(t, one, of, sector, text(160, 200))
			} else {
				wantTrim(t, one, of, sector)
			}
			wantStands(t, a, l)
			wantStands(t, c, m)
			wantDiffer(t, a, c, []int{sector})
			wantDiffer(t, c, a, []int{sector})
		}
	}
}

// A Read's bytes of one are no part of the other either.
func TestReadsOfACloneAreItsOwn(t *testing.T) {
	a, l := full(t, 61)
	c := a.Clone()
	for _, sector := range sectors() {
		one, err := a.Read(sector)
		other, wrong := c.Read(sector)
		if err != nil || wrong != nil {
			t.Fatal(err, wrong)
		}
		clear(one[:cap(one)])
		if string(other) != l.read(sector) {
			t.Fatalf("the clone's bytes of the sector %d: %x", sector, other)
		}
		clear(other[:cap(other)])
	}
	wantStands(t, a, l)
	wantStands(t, c, l)
}

// Clones of clones, of the first and of each other, at any moment: each goes its own way.
func TestClonesOfClones(t *testing.T) {
	s := source(22)
	for range 10 {
		all, lays := []*array.Array{array.New()}, []lay{{}}
		for step := range 400 {
			i := s.below(len(all))
			if step%50 == 10 {
				all, lays = append(all, all[i].Clone()), append(lays, lays[i].kept())
			}
			s.turn(t, all[i], lays[i])
			j := s.below(len(all))
			wantDiffer(t, all[i], all[j], lays[i].differ(lays[j]))
			wantDiffer(t, all[j], all[i], lays[i].differ(lays[j]))
		}
		for i := range all {
			wantStands(t, all[i], lays[i])
		}
	}
}

// One behind the other: the first, its clone, the clone of that and so on; each is changed once all are there.
func TestAChainOfClones(t *testing.T) {
	first, l := full(t, 62)
	all, lays := []*array.Array{first}, []lay{l}
	for range 24 {
		all, lays = append(all, all[len(all)-1].Clone()), append(lays, l.kept())
	}
	for sector := range 24 {
		wantWrite(t, all[sector], lays[sector], sector, text(160, 300+sector))
		wantTrim(t, all[sector], lays[sector], 23-sector)
	}
	for i := range all {
		wantStands(t, all[i], lays[i])
		for j := range all {
			wantDiffer(t, all[i], all[j], lays[i].differ(lays[j]))
		}
	}
}

// In one byte, whichever it is, and in one bit of it.
func TestDifferOfOneByte(t *testing.T) {
	for at := range 160 {
		for _, sector := range []int{0, 9, 23} {
			a, l := full(t, 63)
			c := a.Clone()
			b := []byte(l.read(sector))
			b[at] ^= 1 << (at % 8)
			wantWrite(t, c, lay{}, sector, b)
			wantDiffer(t, a, c, []int{sector})
			wantDiffer(t, c, a, []int{sector})
			wantWrite(t, a, l, sector, b)
			wantDiffer(t, a, c, nil)
		}
	}
}

// Which sectors differ: none, each alone, each two, all, and any; in whichever order they were written, they are told by rising number.
func TestDifferOfAnySectors(t *testing.T) {
	sets := [][]int{nil, sectors()}
	for one := range 24 {
		sets = append(sets, []int{one})
		for other := range one {
			sets = append(sets, []int{other, one})
		}
	}
	s := source(23)
	for range 200 {
		var set []int
		for sector := range 24 {
			if s.below(3) == 0 {
				set = append(set, sector)
			}
		}
		sets = append(sets, set)
	}
	for _, set := range sets {
		a, l := full(t, 64)
		c, m := a.Clone(), l.kept()
		for _, sector := range slices.Backward(set) {
			wantWrite(t, c, m, sector, text(160, 500+sector))
		}
		wantDiffer(t, a, c, set)
		wantDiffer(t, c, a, set)
		wantDiffer(t, a, a, nil)
		wantDiffer(t, c, c, nil)
		wantStands(t, a, l)
		wantStands(t, c, m)
	}
}

// With nil, and with a new array, those that aren't all noughts: a sector that was trimmed, or written with noughts, is none.
func TestDifferOfNoArray(t *testing.T) {
	a, l := array.New(), lay{}
	wantDiffer(t, a, nil, nil)
	s := source(24)
	for range 2000 {
		s.turn(t, a, l)
		wantDiffer(t, a, nil, l.differ(nil))
		wantDiffer(t, a, array.New(), l.differ(nil))
		wantDiffer(t, array.New(), a, l.differ(nil))
	}
	for _, sector := range sectors() {
		wantTrim(t, a, l, sector)
	}
	wantDiffer(t, a, nil, nil)
	for at := range 160 {
		b := make([]byte, 160)
		b[at] = 1
		wantWrite(t, a, l, at%24, b)
		wantDiffer(t, a, nil, []int{at % 24})
		wantWrite(t, a, l, at%24, make([]byte, 160))
		wantDiffer(t, a, nil, nil)
	}
}

// Arrays that came about in other ways, and stand alike: none.
func TestDifferOfThoseThatStandAlike(t *testing.T) {
	a, l := full(t, 65)
	b := array.New()
	for _, sector := range slices.Backward(sectors()) {
		wantWrite(t, b, lay{}, sector, text(160, 900))
		wantTrim(t, b, lay{}, sector)
		wantWrite(t, b, lay{}, sector, []byte(l.read(sector)))
	}
	wantDiffer(t, a, b, nil)
	wantDiffer(t, b, a, nil)
	wantStands(t, b, l)
}
