package point_test

import (
	"bytes"
	"testing"

	"patina/api"
	"patina/point"
)

// bases are bytes of checkpoints of every kind, put together without the program.
func bases() [][]byte {
	return [][]byte{make([]byte, size), bytesOf(example()), bytesOf(greatest()), bytesOf(unlike())}
}

// The examples of the chapter's table.

func TestExamplesOfRead(t *testing.T) {
	wantNoCheckpoint(t, make([]byte, 173))
	wantNoCheckpoint(t, with(make([]byte, 174), 173, 1))
	wantNoCheckpoint(t, with(make([]byte, 174), 127, 96))
}

// P9.2: bytes that are too many, too few, or none.

func TestReadOfEveryLength(t *testing.T) {
	wantNoCheckpoint(t, nil)
	wantNoCheckpoint(t, []byte{})
	for _, base := range bases() {
		want, _ := checkpointOf(base)
		long := append(bytes.Clone(base), make([]byte, 200)...)
		for length := range 301 {
			if length == 174 {
				wantCheckpoint(t, long[:length], want)
			} else {
				wantNoCheckpoint(t, long[:length])
			}
		}
	}
	for length := range 301 {
		wantNoCheckpoint(t, bytes.Repeat([]byte{0xff}, length))
	}
	wantNoCheckpoint(t, make([]byte, 2*size))
	wantNoCheckpoint(t, make([]byte, 1<<20))
}

// P9.2: 174 bytes that are none's.

func TestReadOfARestThatIsNotNoughts(t *testing.T) {
	for _, base := range bases() {
		for i := restAt; i < size; i++ {
			for value := 1; value < 256; value++ {
				wantNoCheckpoint(t, with(base, i, byte(value)))
			}
		}
		wantNoCheckpoint(t, with(base, restAt, bytes.Repeat([]byte{0xff}, 10)...))
		wantNoCheckpoint(t, with(base, restAt, 1, 0xff)) // together a nought, if they were summed up
		wantNoCheckpoint(t, with(base, restAt, 7, 7))    // likewise, if one were taken off the other
	}
}

func TestReadOfBlocksThatThereAreNot(t *testing.T) {
	for _, base := range bases() {
		for bit := 4; bit < 8; bit++ {
			wantNoCheckpoint(t, with(base, 126, base[126]|1<<bit))
			wantNoCheckpoint(t, with(base, 126, 1<<bit))
		}
		for value := range 256 {
			wantAsTold(t, with(base, 126, byte(value)))
		}
		wantNoCheckpoint(t, with(base, 126, 16))
		c, _ := checkpointOf(with(base, 126, 15))
		wantCheckpoint(t, with(base, 126, 15), c)
	}
}

func TestReadOfEveryCursor(t *testing.T) {
	for _, base := range bases() {
		c, _ := checkpointOf(base)
		for cursor := range 96 {
			c.Cursor = cursor
			wantCheckpoint(t, with(base, 127, byte(cursor)), c)
		}
		for cursor := 96; cursor < 256; cursor++ {
			wantNoCheckpoint(t, with(base, 127, byte(cursor)))
		}
	}
}

// Where several things are wrong with the bytes the answer is the same.
func TestReadOfSeveralFaults(t *testing.T) {
	wantNoCheckpoint(t, bytes.Repeat([]byte{0xff}, size))
	for _, base := range bases() {
		wantNoCheckpoint(t, with(base, 126, 0xf0, 96))
		wantNoCheckpoint(t, with(with(base, 126, 0x10), 173, 1))
		wantNoCheckpoint(t, with(with(base, 127, 255), 164, 1))
		wantNoCheckpoint(t, with(with(base, 126, 0xff, 0xff), 164, bytes.Repeat([]byte{0xff}, 10)...))
		wantNoCheckpoint(t, with(with(base, 126, 0xff, 0xff), 164, 1)[:173])
	}
}

// P9.2: bytes that are a checkpoint's.

// Every byte of the data as every other one: told as the table says, or refused.
func TestReadOfEveryByte(t *testing.T) {
	for _, base := range bases() {
		for i := range base {
			for value := range 256 {
				wantAsTold(t, with(base, i, byte(value)))
			}
		}
	}
}

// Each number is read off its own bytes, and off no others.
func TestReadOfEachNumber(t *testing.T) {
	for _, base := range bases() {
		for _, n := range numbers() {
			for _, v := range n.may() {
				want, _ := checkpointOf(base)
				n.put(&want, v)
				b := bytes.Clone(base)
				for i := range n.wide {
					b[n.at+i] = byte(v >> (8 * i))
				}
				wantCheckpoint(t, b, want)
			}
		}
	}
}

func TestReadOfCheckpointsOfAllKinds(t *testing.T) {
	for _, c := range checkpoints() {
		wantCheckpoint(t, bytesOf(c), c)
	}
}

// P9.3: what follows.

func TestReadOfWriteIsTheCheckpoint(t *testing.T) {
	for _, c := range checkpoints() {
		wantCheckpoint(t, wantBytes(t, c), c)
	}
	s := source(3)
	for range 20000 {
		c := s.checkpoint()
		wantCheckpoint(t, wantBytes(t, c), c)
	}
}

// Whatever bytes are read are what Write makes of their checkpoint, and that can be told.
func TestWriteOfReadIsTheBytes(t *testing.T) {
	read, refused := 0, 0
	s := source(7)
	for range 50000 {
		b := s.nearly()
		wantAsTold(t, b)
		c, err := point.Read(b)
		if err != nil {
			refused++
			continue
		}
		read++
		if again, err := point.Write(c); !canBeTold(c) || err != nil || !bytes.Equal(again, b) {
			t.Fatalf("Write of Read(% x): % x, %v", b, again, err)
		}
	}
	if read < 1000 || refused < 1000 {
		t.Errorf("%d were read, %d refused", read, refused)
	}
}

// Two checkpoints that are not the same have bytes that are not the same.
func TestBytesTellCheckpointsApart(t *testing.T) {
	taken := map[[size]byte]api.Checkpoint{}
	s := source(1)
	all := checkpoints()
	for range 5000 {
		all = append(all, s.checkpoint())
	}
	for _, c := range all {
		b := [size]byte(wantBytes(t, c))
		if other, ok := taken[b]; ok && other != c {
			t.Fatalf("%+v and %+v have the same bytes", c, other)
		}
		taken[b] = c
	}
	if len(taken) < 5000 {
		t.Errorf("only %d checkpoints are unlike", len(taken))
	}
}
