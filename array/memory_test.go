package array_test

import (
	"bytes"
	"math"
	"slices"
	"sync"
	"testing"

	"patina/array"
)

// R1, R3 and R4: all arguments, what is handed in is neither changed nor kept, what is answered is new memory, and hangs on what was done with that object alone.

// All calls at all ends of their arguments: each ends, with the chapter's answer.
func TestAllArgumentsAtTheirEnds(t *testing.T) {
	ends := []int{math.MinInt, math.MinInt + 1, -2, -1, 0, 1, 22, 23, 24, 25, 1 << 32, 1 << 62, math.MaxInt - 1, math.MaxInt}
	lists := [][]byte{nil, {}, {1}, text(159, 1), text(160, 2), text(161, 3), make([]byte, 160), make([]byte, 1<<20)}
	a, l := array.New(), lay{}
	for _, sector := range ends {
		for _, b := range lists {
			wantWrite(t, a, l, sector, b)
			wantStands(t, a, l)
			wantTrim(t, a, l, sector)
			wantStands(t, a, l)
			wantWrite(t, a, l, sector, b)
			wantStands(t, a, l)
		}
		if slices.Contains(sectors(), sector) {
			wantRead(t, a, sector, l.read(sector))
		} else {
			wantNoRead(t, a, sector)
		}
	}
	for _, b := range []*array.Array{nil, a, array.New(), a.Clone()} {
		a.Differ(b)
		array.New().Differ(b)
	}
	wantStands(t, a, l)
}

// The bytes of a Write stay as they are, with what stands behind them, whether it is taken or refused, and whatever is called later.
func TestWhatIsHandedInIsNotChanged(t *testing.T) {
	s := source(61)
	for round := range 20 {
		room := text(400, round)
		was := bytes.Clone(room)
		a, l := array.New(), lay{}
		for _, sector := range sectors() {
			wantWrite(t, a, l, sector, room[sector:sector+160])
			wantWrite(t, a, l, sector, room)
			wantWrite(t, a, l, sector, room[:159])
		}
		wantWrite(t, a, l, 24, room[:160])
		wantWrite(t, a, l, -1, room)
		for range 200 {
			s.turn(t, a, l)
			s.turn(t, a.Clone(), l.kept())
		}
		if !bytes.Equal(room, was) {
			t.Fatalf("the bytes are %x, they were %x", room, was)
		}
	}
}

// Their owner changes them behind the call: the array stays, and so does its clone.
func TestWhatIsHandedInIsNotKept(t *testing.T) {
	for _, sector := range sectors() {
		room := make([]byte, 400)
		a, l := full(t, 80)
		for turn := range 10 {
			copy(room, text(400, turn))
			wantWrite(t, a, l, sector, room[turn:turn+160])
			c := a.Clone()
			for i := range room {
				room[i] ^= 0xff
				if i%40 == 0 {
					wantRead(t, a, sector, l.read(sector))
				}
			}
			wantStands(t, a, l)
			wantStands(t, c, l)
		}
	}
}

// One list for several sectors, and for two arrays: each has its own bytes.
func TestOneListForSeveral(t *testing.T) {
	list := text(160, 81)
	a, l := array.New(), lay{}
	b, m := array.New(), lay{}
	for _, sector := range sectors() {
		wantWrite(t, a, l, sector, list)
		wantWrite(t, b, m, 23-sector, list)
	}
	wantTrim(t, a, l, 4)
	wantWrite(t, b, m, 5, text(160, 82))
	clear(list)
	wantStands(t, a, l)
	wantStands(t, b, m)
}

// What a Read answered may be written again, to the same array, to another sector, or to another array.
func TestReadsAreWritten(t *testing.T) {
	a, l := full(t, 83)
	c, m := array.New(), lay{}
	for _, sector := range sectors() {
		b, err := a.Read(sector)
		if err != nil {
			t.Fatal(err)
		}
		wantWrite(t, a, l, sector, b)
		wantWrite(t, a, l, (sector+5)%24, b)
		wantWrite(t, c, m, sector, b)
		clear(b)
		wantStands(t, a, l)
		wantStands(t, c, m)
	}
}

// The bytes of a Read are their receiver's, spare room too: no later answer is changed by what is done to them, and no earlier one.
func TestReadsAreTheCallersOwn(t *testing.T) {
	written, l := full(t, 84)
	for _, sector := range sectors() {
		for _, c := range []struct {
			a *array.Array
			l lay
		}{{written, l}, {array.New(), lay{}}} {
			first, err := c.a.Read(sector)
			second, wrong := c.a.Read(sector)
			if err != nil || wrong != nil {
				t.Fatal(err, wrong)
			}
			first, second = append(first, 1, 2, 3), append(second, 4, 5, 6)
			if string(first) != c.l.read(sector)+"\x01\x02\x03" || string(second) != c.l.read(sector)+"\x04\x05\x06" {
				t.Fatalf("Read(%d) with more behind: %x, %x", sector, first, second)
			}
			for _, b := range [][]byte{first, second} {
				for i := range b[:cap(b)] {
					b[:cap(b)][i] ^= 0x5a
				}
			}
			third, err := c.a.Read(sector)
			if err != nil {
				t.Fatal(err)
			}
			for i := range third[:cap(third)] {
				third[:cap(third)][i] ^= 0xa5
			}
			wantStands(t, c.a, c.l)
		}
	}
}

// What was read stays as it was, whatever is done to the array.
func TestReadsStay(t *testing.T) {
	a, l := full(t, 85)
	was := l.kept()
	var read [24][]byte
	for sector := range read {
		b, err := a.Read(sector)
		if err != nil {
			t.Fatal(err)
		}
		read[sector] = b
	}
	for _, sector := range sectors() {
		wantTrim(t, a, l, sector)
		wantWrite(t, a, l, sector, text(160, 600+sector))
	}
	for sector, b := range read {
		if string(b) != was.read(sector) {
			t.Errorf("what was read of the sector %d is %x now", sector, b)
		}
	}
}

// The numbers of a Differ are their receiver's, spare room too.
func TestNumbersAreTheCallersOwn(t *testing.T) {
	a, l := full(t, 86)
	wantTrim(t, a, l, 0)
	wantTrim(t, a, l, 7)
	c, m := full(t, 87)
	for _, b := range []*array.Array{nil, c} {
		was := l.differ(nil)
		if b != nil {
			was = l.differ(m)
		}
		first, second := a.Differ(b), a.Differ(b)
		first, second = append(first, 70, 71), append(second, 80, 81)
		if !slices.Equal(first, append(slices.Clone(was), 70, 71)) || !slices.Equal(second, append(slices.Clone(was), 80, 81)) {
			t.Fatalf("Differ with more behind: %v, %v", first, second)
		}
		for range 5 {
			third := a.Differ(b)
			for i := range third[:cap(third)] {
				third[:cap(third)][i] = -77
			}
			wantDiffer(t, a, b, was)
		}
		if !slices.Equal(first[:len(was)], was) {
			t.Fatalf("Differ, later on: %v", first)
		}
	}
	wantStands(t, a, l)
	wantStands(t, c, m)
}

func TestEachArrayIsItsOwn(t *testing.T) {
	s := source(62)
	var made [6]*array.Array
	var lays [6]lay
	for i := range made {
		made[i], lays[i] = array.New(), lay{}
	}
	for step := range 3000 {
		i := s.below(6)
		s.turn(t, made[i], lays[i])
		j := s.below(6)
		wantDiffer(t, made[i], made[j], lays[i].differ(lays[j]))
		if step%50 == 0 {
			for i := range made {
				wantStands(t, made[i], lays[i])
			}
		}
	}
	wantStands(t, array.New(), lay{})
}

// Objects with which the same was done answer alike, at one time too.
func TestAnswersHangOnWhatWasDone(t *testing.T) {
	given := text(160, 88)
	var wait sync.WaitGroup
	for range 8 {
		wait.Go(func() {
			s := source(63)
			a, l := array.New(), lay{}
			for range 3000 {
				sector := s.below(26) - 1
				b := given
				if s.below(2) == 0 {
					b = s.bytes()
				}
				if s.below(4) == 0 {
					if a.Trim(sector) != l.trim(sector) {
						t.Errorf("Trim(%d)", sector)
						return
					}
				} else if a.Write(sector, b) != l.write(sector, b) {
					t.Errorf("Write(%d)", sector)
					return
				}
				if got := a.Differ(nil); !slices.Equal(got, l.differ(nil)) {
					t.Errorf("Differ(nil): %v, want %v", got, l.differ(nil))
					return
				}
			}
		})
	}
	wait.Wait()
}

// As long as nobody changes an array, several may ask it at one time.
func TestSeveralAskAtOneTime(t *testing.T) {
	a, l := full(t, 89)
	var wait sync.WaitGroup
	for range 8 {
		wait.Go(func() {
			for turn := range 500 {
				sector := turn % 24
				if b, err := a.Read(sector); err != nil || string(b) != l.read(sector) {
					t.Errorf("Read(%d): %x, %v", sector, b, err)
				}
				if c := a.Clone(); c.Trim(sector) != nil || !slices.Equal(a.Differ(c), []int{sector}) {
					t.Errorf("a clone whose sector %d was trimmed: %v", sector, a.Differ(c))
				}
			}
		})
	}
	wait.Wait()
}
