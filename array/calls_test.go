package array_test

import (
	"bytes"
	"testing"

	"patina/api"
	"patina/array"
)

// P20.1.

func TestNew(t *testing.T) {
	a := array.New()
	for sector := range 24 {
		b, err := a.Read(sector)
		if err != nil || len(b) != 160 || !bytes.Equal(b, make([]byte, 160)) {
			t.Errorf("Read(%d): %d bytes, %x, %v", sector, len(b), b, err)
		}
	}
	wantStands(t, a, lay{})
}

// Whatever was done with others: a new one is noughts.
func TestNewBehindOthers(t *testing.T) {
	for turn := range 20 {
		a, l := full(t, turn)
		wantStands(t, array.New(), lay{})
		wantStands(t, a, l)
	}
}

// P20.2.

// Of every sector: its bytes are these, and no other sector's.
func TestWriteOfEachSector(t *testing.T) {
	for _, sector := range sectors() {
		a, l := array.New(), lay{}
		for turn := range 5 {
			wantWrite(t, a, l, sector, text(160, turn))
			wantStands(t, a, l)
		}
		a, l = full(t, 50)
		for turn := range 5 {
			wantWrite(t, a, l, sector, text(160, turn))
			wantStands(t, a, l)
		}
	}
}

// Each byte of a sector is its own, both ends too: one is set, all others are noughts, or the other way round.
func TestWriteOfEachByte(t *testing.T) {
	for _, sector := range []int{0, 1, 11, 22, 23} {
		for at := range 160 {
			a, l := array.New(), lay{}
			b := make([]byte, 160)
			b[at] = byte(at | 1)
			wantWrite(t, a, l, sector, b)
			wantStands(t, a, l)
			b = text(160, at)
			b[at] = 0
			wantWrite(t, a, l, sector, b)
			wantStands(t, a, l)
		}
	}
}

// Every value of a byte.
func TestWriteOfEachValue(t *testing.T) {
	a, l := array.New(), lay{}
	for value := range 256 {
		wantWrite(t, a, l, value%24, bytes.Repeat([]byte{byte(value)}, 160))
		wantRead(t, a, value%24, l.read(value%24))
	}
	wantStands(t, a, l)
}

// Noughts written are as a Trim.
func TestWriteOfNoughts(t *testing.T) {
	for _, sector := range sectors() {
		a, l := full(t, 3)
		b, m := full(t, 3)
		wantWrite(t, a, l, sector, make([]byte, 160))
		wantTrim(t, b, m, sector)
		wantRead(t, a, sector, noughts)
		wantStands(t, a, m)
		wantStands(t, b, l)
		wantDiffer(t, a, b, nil)
	}
}

func TestTrimOfEachSector(t *testing.T) {
	for _, sector := range sectors() {
		a, l := full(t, 7)
		for range 3 {
			wantTrim(t, a, l, sector)
			wantRead(t, a, sector, noughts)
			wantStands(t, a, l)
		}
		wantWrite(t, a, l, sector, text(160, 90))
		wantStands(t, a, l)
		// Of one that was never written.
		a, l = array.New(), lay{}
		wantTrim(t, a, l, sector)
		wantStands(t, a, lay{})
	}
}

func TestReadOfNoSector(t *testing.T) {
	written, l := full(t, 5)
	for _, sector := range noSectors() {
		wantNoRead(t, array.New(), sector)
		wantNoRead(t, written, sector)
	}
	wantStands(t, written, l)
}

// With bytes of any length, also of the right one.
func TestWriteOfNoSector(t *testing.T) {
	for turn := range 2 {
		a, l := array.New(), lay{}
		if turn == 1 {
			a, l = full(t, 9)
		}
		was := l.kept()
		for _, sector := range noSectors() {
			for _, length := range append(noLengths(), 160) {
				if err := a.Write(sector, text(length, 77)); err != api.ErrArg {
					t.Fatalf("Write(%d, %d bytes): %v", sector, length, err)
				}
			}
			if err := a.Write(sector, nil); err != api.ErrArg {
				t.Fatalf("Write(%d, nil): %v", sector, err)
			}
			wantStands(t, a, was)
		}
	}
}

// Too few bytes, none, and too many: nothing has changed, not even the first ones.
func TestWriteOfAnotherLength(t *testing.T) {
	for turn := range 2 {
		a, l := array.New(), lay{}
		if turn == 1 {
			a, l = full(t, 11)
		}
		was := l.kept()
		for _, sector := range sectors() {
			for _, length := range noLengths() {
				if err := a.Write(sector, text(length, 78)); err != api.ErrArg {
					t.Fatalf("Write(%d, %d bytes): %v", sector, length, err)
				}
			}
			for _, b := range [][]byte{nil, {}, make([]byte, 0, 160), make([]byte, 159, 160), make([]byte, 161)} {
				if err := a.Write(sector, b); err != api.ErrArg {
					t.Fatalf("Write(%d, %d bytes of %d): %v", sector, len(b), cap(b), err)
				}
			}
			wantStands(t, a, was)
		}
	}
}

// Every length up to far behind a sector's: 160 alone will do.
func TestWriteOfEachLength(t *testing.T) {
	a, want := array.New(), lay{}
	for length := range 700 {
		err := a.Write(5, text(length, length))
		if (err == nil) != (length == 160) || err != nil && err != api.ErrArg {
			t.Fatalf("Write(5, %d bytes): %v", length, err)
		}
		if length == 160 {
			want = lay{5: string(text(160, 160))}
		}
		wantStands(t, a, want)
	}
}

// 160 bytes with room behind them are 160 bytes.
func TestWriteOfBytesWithRoom(t *testing.T) {
	room := text(500, 4)
	a, l := array.New(), lay{}
	wantWrite(t, a, l, 8, room[:160])
	wantWrite(t, a, l, 9, room[340:500:500])
	wantWrite(t, a, l, 10, room[100:260])
	if l.read(8) == noughts || l.read(9) == noughts || l.read(10) == noughts {
		t.Fatal("they weren't told as written")
	}
	wantStands(t, a, l)
}

func TestTrimOfNoSector(t *testing.T) {
	a, l := full(t, 13)
	for _, sector := range noSectors() {
		if err := a.Trim(sector); err != api.ErrArg {
			t.Fatalf("Trim(%d): %v", sector, err)
		}
		wantStands(t, a, l)
	}
}
