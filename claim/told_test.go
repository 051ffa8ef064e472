package claim_test

import (
	"math"
	"math/big"
	"slices"
	"testing"

	"patina/api"
	"patina/claim"
)

// What the chapter says, told without the program.

const maxSeq = 1099511627775 // 2^40 - 1

// found is one whose tag tells its own place.
func found(place, of int, seq int64, copy int) api.Found {
	return api.Found{Place: place, Tag: api.Tag{Place: place, Of: of, Seq: seq, Copy: copy}}
}

// isSound is the chapter's sentence.
func isSound(f api.Found) bool {
	return f.Place >= 0 && f.Place <= 95 && f.Tag.Of >= 0 && f.Tag.Of <= 24 && f.Tag.Seq >= 0 && f.Tag.Seq <= maxSeq && f.Tag.Copy >= 0 && f.Tag.Copy <= 255
}

// isAhead goes from the copy a on, one by one, and looks whether it meets b.
func isAhead(a, b int) bool {
	if a < 0 || a > 255 || b < 0 || b > 255 {
		return false
	}
	for range 127 {
		if a++; a == 256 {
			a = 0
		}
		if a == b {
			return true
		}
	}
	return false
}

// newestOf goes through the places one by one, and through the whole list at each.
func newestOf(l []api.Found, of int, above int64) (api.Found, bool) {
	claims := func(f api.Found) bool { return isSound(f) && f.Tag.Of == of && f.Tag.Seq > above }
	greatest := int64(-1)
	for _, f := range l {
		if claims(f) && f.Tag.Seq > greatest {
			greatest = f.Tag.Seq
		}
	}
	var out api.Found
	is := false
	for place := range 96 {
		for _, f := range l {
			if f.Place != place || !claims(f) || f.Tag.Seq != greatest {
				continue
			}
			if !is || isAhead(f.Tag.Copy, out.Tag.Copy) {
				out, is = f, true
			}
		}
	}
	return out, is
}

// liveOf takes the founds of bad blocks away, and asks for each number.
func liveOf(l []api.Found, c api.Checkpoint) [25]int {
	good := slices.DeleteFunc(slices.Clone(l), func(f api.Found) bool {
		for block, bad := range c.Bad {
			if bad && f.Place >= 8*block && f.Place <= 8*block+7 {
				return true
			}
		}
		return false
	})
	var out [25]int
	for of := range 24 {
		out[of] = -1
		if f, is := newestOf(good, of, c.Floors[of]); is {
			out[of] = f.Place
		}
	}
	out[24] = -1
	if f, is := newestOf(good, 24, -1); is {
		out[24] = f.Place
	}
	return out
}

// nextOf reckons with numbers that have no end.
func nextOf(l []api.Found, c api.Checkpoint) int64 {
	all := []*big.Int{new(big.Int).Sub(big.NewInt(c.Next), big.NewInt(1))}
	for _, floor := range c.Floors {
		all = append(all, big.NewInt(floor))
	}
	for _, f := range l {
		if isSound(f) {
			all = append(all, big.NewInt(f.Tag.Seq))
		}
	}
	greatest := slices.MaxFunc(all, (*big.Int).Cmp)
	if greatest.Sign() < 0 {
		return 0
	}
	if next := greatest.Add(greatest, big.NewInt(1)); next.Cmp(big.NewInt(maxSeq)) < 0 {
		return next.Int64()
	}
	return maxSeq
}

// wantNewest asks Newest for a found that there is.
func wantNewest(t *testing.T, l []api.Found, of int, above int64, want api.Found) {
	t.Helper()
	if f, is := claim.Newest(l, of, above); f != want || !is {
		t.Errorf("Newest(%+v, %d, %d): %+v, %v, want %+v", l, of, above, f, is, want)
	}
}

// wantNone asks Newest where there is none.
func wantNone(t *testing.T, l []api.Found, of int, above int64) {
	t.Helper()
	if f, is := claim.Newest(l, of, above); f != (api.Found{}) || is {
		t.Errorf("Newest(%+v, %d, %d): %+v, %v, want none", l, of, above, f, is)
	}
}

// wantNewestAsTold asks Newest of a list, whatever it is.
func wantNewestAsTold(t *testing.T, l []api.Found, of int, above int64) {
	t.Helper()
	if want, is := newestOf(l, of, above); is {
		wantNewest(t, l, of, above, want)
	} else {
		wantNone(t, l, of, above)
	}
}

// wantLive asks Live for the places of some numbers; all others have none.
func wantLive(t *testing.T, l []api.Found, c api.Checkpoint, places map[int]int) {
	t.Helper()
	var want [25]int
	for of := range want {
		want[of] = -1
		if place, is := places[of]; is {
			want[of] = place
		}
	}
	if got := claim.Live(l, c); got != want {
		t.Errorf("Live(%+v, %+v): %v, want %v", l, c, got, want)
	}
}

// wantLiveAsTold asks Live of a list and a checkpoint, whatever they are.
func wantLiveAsTold(t *testing.T, l []api.Found, c api.Checkpoint) {
	t.Helper()
	if got, want := claim.Live(l, c), liveOf(l, c); got != want {
		t.Errorf("Live(%+v, %+v): %v, want %v", l, c, got, want)
	}
}

// wantNext asks Next for a seq.
func wantNext(t *testing.T, l []api.Found, c api.Checkpoint, want int64) {
	t.Helper()
	if got := claim.Next(l, c); got != want {
		t.Errorf("Next(%+v, %+v): %d, want %d", l, c, got, want)
	}
}

// broken are founds that differ from a sound one in one field, which isn't sound then.
func broken(f api.Found) []api.Found {
	var out []api.Found
	for _, v := range []int{math.MinInt, math.MinInt + 1, -256, -8, -2, -1, math.MaxInt - 1, math.MaxInt} {
		place, of, copy := f, f, f
		place.Place, of.Tag.Of, copy.Tag.Copy = v, v, v
		out = append(out, place, of, copy)
	}
	for _, v := range []int64{math.MinInt64, math.MinInt64 + 1, -maxSeq, -2, -1, maxSeq + 1, maxSeq + 2, 2*maxSeq + 2, math.MaxInt64 - 1, math.MaxInt64} {
		seq := f
		seq.Tag.Seq = v
		out = append(out, seq)
	}
	for _, more := range []int{1, 2, 1000} {
		place, of, copy := f, f, f
		place.Place, of.Tag.Of, copy.Tag.Copy = 95+more, 24+more, 255+more
		out = append(out, place, of, copy)
	}
	return out
}

// allFloors is the checkpoint of which all floors are one.
func allFloors(v int64) api.Checkpoint {
	var c api.Checkpoint
	for i := range c.Floors {
		c.Floors[i] = v
	}
	return c
}

// source gives numbers that hang on its start alone.
type source uint64

func (s *source) next() uint64 {
	*s = *s*6364136223846793005 + 1442695040888963407
	return uint64(*s) >> 31
}

func (s *source) below(n int) int { return int(s.next() % uint64(n)) }

// near is often one of the first so many, now and then beyond both ends of what is sound, or an end of its type.
func (s *source) near(few, greatest int) int {
	switch s.below(40) {
	case 0:
		return greatest + s.below(2)
	case 1:
		return -s.below(3)
	case 2:
		return []int{math.MinInt, math.MaxInt}[s.below(2)]
	}
	return s.below(few)
}

// found is one that is mostly sound, with few numbers, seqs and copies, so that they meet.
func (s *source) found() api.Found {
	copy := s.near(4, 255)
	if s.below(3) == 0 {
		copy = (250 + 50*s.below(6)) % 256
	}
	of := s.near(3, 24)
	if s.below(4) == 0 {
		of = 24
	}
	return api.Found{Place: s.near(96, 95), Tag: api.Tag{Place: s.near(96, 95), Of: of, Seq: int64(s.near(3, maxSeq)), Copy: copy, Lost: s.below(2) == 0}}
}

func (s *source) founds(many int) []api.Found {
	var out []api.Found
	for range s.below(many + 1) {
		out = append(out, s.found())
	}
	return out
}

// apart are sound founds of which no two have one place, and of each number and seq no copies but of one half of the ring.
func (s *source) apart(many int) []api.Found {
	first := s.below(256)
	places := s.places()
	var out []api.Found
	for i := range s.below(many + 1) {
		of := s.below(4)
		if of == 3 {
			of = 24
		}
		out = append(out, found(places[i], of, int64(1+s.below(3)), (first+s.below(4))%256))
	}
	return out
}

// places are all of them, in any order.
func (s *source) places() []int {
	out := make([]int, 96)
	for i := range out {
		out[i] = i
	}
	shuffle(s, out)
	return out
}

func shuffle[E any](s *source, l []E) {
	for i := len(l) - 1; i > 0; i-- {
		j := s.below(i + 1)
		l[i], l[j] = l[j], l[i]
	}
}

// checkpoint is one with few bad blocks, and floors about the seqs of founds.
func (s *source) checkpoint() api.Checkpoint {
	c := api.Checkpoint{Next: int64(s.near(5, maxSeq)), Cursor: s.near(96, 95)}
	for i := range c.Floors {
		c.Floors[i] = int64(s.near(4, maxSeq)) - 1
	}
	for block := range c.Bad {
		c.Bad[block] = s.below(6) == 0
		c.Reads[block], c.Scores[block] = s.near(600, 65535), s.near(4, 255)
	}
	return c
}
