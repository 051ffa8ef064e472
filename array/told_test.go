package array_test

import (
	"maps"
	"math"
	"slices"
	"strings"
	"testing"

	"patina/api"
	"patina/array"
)

// What the chapter says, told without the program.

// lay is how an array stands: of each sector whose bytes aren't all noughts these bytes, of no other anything.
type lay map[int]string

// noughts are the bytes of a sector that was never written.
var noughts = strings.Repeat("\x00", 160)

// read is the bytes of a sector.
func (l lay) read(sector int) string {
	if b, is := l[sector]; is {
		return b
	}
	return noughts
}

// write and trim are P20.2.
func (l lay) write(sector int, b []byte) error {
	if !slices.Contains(sectors(), sector) || len(b) != 160 {
		return api.ErrArg
	}
	delete(l, sector)
	if string(b) != noughts {
		l[sector] = string(b)
	}
	return nil
}

func (l lay) trim(sector int) error {
	if !slices.Contains(sectors(), sector) {
		return api.ErrArg
	}
	delete(l, sector)
	return nil
}

// differ is P20.3.
func (l lay) differ(m lay) []int {
	var out []int
	for _, sector := range sectors() {
		if l[sector] != m[sector] {
			out = append(out, sector)
		}
	}
	return out
}

// sectors are those that there are.
func sectors() []int {
	var out []int
	for n := range 24 {
		out = append(out, n)
	}
	return out
}

// noSectors aren't: those next to them, some that are once they are cut down to fewer bits, both ends of their type.
func noSectors() []int {
	return []int{
		math.MinInt, math.MinInt + 1, math.MinInt32, -1 << 32, -1<<32 + 3, -256, -253, -160, -25, -24, -23, -2, -1,
		24, 25, 47, 48, 159, 160, 255, 256, 259, 1 << 16, 1<<31 - 1, 1 << 32, 1<<32 + 3, 1 << 62, math.MaxInt - 1, math.MaxInt,
	}
}

// noLengths are those of no sector.
func noLengths() []int {
	return []int{0, 1, 2, 79, 80, 158, 159, 161, 162, 174, 256, 319, 320, 160 + 256, 24 * 160, 160 + 65536}
}

// text are so many bytes, each time others, none of them 0.
func text(length, turn int) []byte {
	b := make([]byte, length)
	for i := range b {
		b[i] = byte(1 + (i*(turn%11+1)+turn*37+i/160*13)%255)
	}
	return b
}

// wantStands asks an array for everything that doesn't change it, twice: to ask is to do nothing.
func wantStands(t *testing.T, a *array.Array, l lay) {
	t.Helper()
	for range 2 {
		for _, sector := range sectors() {
			wantRead(t, a, sector, l.read(sector))
		}
		wantDiffer(t, a, nil, l.differ(nil))
	}
}

func wantRead(t *testing.T, a *array.Array, sector int, want string) {
	t.Helper()
	if b, err := a.Read(sector); string(b) != want || err != nil {
		t.Fatalf("Read(%d): %x, %v, want %x", sector, b, err, want)
	}
}

func wantNoRead(t *testing.T, a *array.Array, sector int) {
	t.Helper()
	if b, err := a.Read(sector); len(b) != 0 || err != api.ErrArg {
		t.Fatalf("Read(%d): %x, %v, want ErrArg alone", sector, b, err)
	}
}

// wantWrite writes, on both sides.
func wantWrite(t *testing.T, a *array.Array, l lay, sector int, b []byte) {
	t.Helper()
	if err, want := a.Write(sector, b), l.write(sector, b); err != want {
		t.Fatalf("Write(%d, %d bytes): %v, want %v", sector, len(b), err, want)
	}
}

// wantTrim trims, on both sides.
func wantTrim(t *testing.T, a *array.Array, l lay, sector int) {
	t.Helper()
	if err, want := a.Trim(sector), l.trim(sector); err != want {
		t.Fatalf("Trim(%d): %v, want %v", sector, err, want)
	}
}

func wantDiffer(t *testing.T, a, b *array.Array, want []int) {
	t.Helper()
	if got := a.Differ(b); !slices.Equal(got, want) {
		t.Fatalf("Differ: %v, want %v", got, want)
	}
}

// full is an array all of whose sectors were written, each with other bytes.
func full(t *testing.T, turn int) (*array.Array, lay) {
	t.Helper()
	a, l := array.New(), lay{}
	for _, sector := range sectors() {
		wantWrite(t, a, l, sector, text(160, turn+sector))
	}
	return a, l
}

// source gives numbers that hang on its start alone.
type source uint64

func (s *source) below(n int) int {
	*s = *s*6364136223846793005 + 1442695040888963407
	return int(uint64(*s) >> 33 % uint64(n))
}

func (s *source) of(list []int) int { return list[s.below(len(list))] }

// bytes are 160 of any kind: any ones, noughts but for one, all noughts.
func (s *source) bytes() []byte {
	b := make([]byte, 160)
	switch s.below(6) {
	case 0:
	case 1:
		b[s.below(160)] = byte(1 + s.below(255))
	default:
		for i := range b {
			b[i] = byte(s.below(256))
		}
	}
	return b
}

// turn is a call of any kind, of any sector, of some that aren't there too; the answer is as told.
func (s *source) turn(t *testing.T, a *array.Array, l lay) {
	t.Helper()
	sector := s.below(24)
	if s.below(12) == 0 {
		sector = s.of(noSectors())
	}
	switch s.below(10) {
	case 0, 1:
		wantTrim(t, a, l, sector)
	case 2:
		wantWrite(t, a, l, sector, text(s.of(noLengths()), s.below(1000)))
	case 3, 4:
		s.look(t, a, l, sector)
	default:
		wantWrite(t, a, l, sector, s.bytes())
	}
}

// look is a call of any kind that changes nothing.
func (s *source) look(t *testing.T, a *array.Array, l lay, sector int) {
	t.Helper()
	switch {
	case s.below(4) == 0:
		wantDiffer(t, a, nil, l.differ(nil))
	case s.below(8) == 0:
		wantDiffer(t, a, a, nil)
	case s.below(8) == 0:
		wantDiffer(t, a, a.Clone(), nil)
	case slices.Contains(sectors(), sector):
		wantRead(t, a, sector, l.read(sector))
	default:
		wantNoRead(t, a, sector)
	}
}

// kept is how it stands now, whatever comes.
func (l lay) kept() lay { return maps.Clone(l) }
