package point_test

import (
	"bytes"
	"sync"
	"testing"

	"patina/api"
	"patina/point"
)

// R3 and R4: what is handed in stays as it is, what is answered is its owner's, nothing is kept.

// spoil grows bytes, and writes over all of them, spare room too.
func spoil(b []byte) {
	grown := append(b, bytes.Repeat([]byte{0x5a}, 60)...)
	for i := len(b); i < len(grown); i++ {
		grown[i] ^= 0x33
	}
	b = b[:cap(b)]
	for i := range b {
		b[i] ^= 0xa5
	}
}

func TestReadLeavesTheBytes(t *testing.T) {
	given := append(bases(), bytes.Repeat([]byte{0xff}, size), nil)
	for _, base := range bases() {
		given = append(given, with(base, 127, 96), with(base, 126, 0x80), with(base, 173, 1), base[:173], append(bytes.Clone(base), 0))
	}
	for _, b := range given {
		room := bytes.Repeat([]byte{0xc3}, len(b)+80)
		copy(room[40:], b)
		before := bytes.Clone(room)
		point.Read(room[40 : 40+len(b)])
		if !bytes.Equal(room, before) {
			t.Errorf("Read(% x) changed it, or what stands beside it", b)
		}
	}
}

// Bytes that are written over change no checkpoint that was read of them, and the next answer hangs on what stands there then.
func TestReadKeepsNoBytes(t *testing.T) {
	for _, base := range bases() {
		want, _ := checkpointOf(base)
		b := bytes.Clone(base)
		got, err := point.Read(b)
		spoil(b)
		if got != want || err != nil {
			t.Errorf("Read(% x): %+v, %v, want %+v", base, got, err, want)
		}
		wantAsTold(t, b)
		wantCheckpoint(t, base, want)
	}
}

// What lies behind the bytes, in their own room, is not looked at.
func TestReadOfBytesWithOthersBehindThem(t *testing.T) {
	for _, base := range bases() {
		want, _ := checkpointOf(base)
		room := append(bytes.Clone(base), bytes.Repeat([]byte{0xff}, 50)...)
		wantCheckpoint(t, room[:size], want)
		wantCheckpoint(t, room[:size:size], want)
		wantNoCheckpoint(t, room[:size-1])
	}
}

// Bytes that are written over and grown change none that were answered ahead of them, and none behind.
func TestWriteAnswersNewMemory(t *testing.T) {
	all := checkpoints()
	for i, c := range all {
		other := all[len(all)-1-i]
		first, second, third := wantBytes(t, c), wantBytes(t, c), wantBytes(t, other)
		spoil(first)
		if !bytes.Equal(second, bytesOf(c)) || !bytes.Equal(third, bytesOf(other)) {
			t.Fatalf("what Write(%+v) answered shares memory with another answer", c)
		}
		wantBytes(t, c)
		wantCheckpoint(t, second, c)
	}
}

// An answer may be grown by its owner without meeting anybody's bytes.
func TestGrowingAnAnswer(t *testing.T) {
	for _, c := range checkpoints() {
		first, second := wantBytes(t, c), wantBytes(t, c)
		long := append(first, bytes.Repeat([]byte{0xff}, 100)...)
		if !bytes.Equal(long[:size], bytesOf(c)) || !bytes.Equal(first, bytesOf(c)) || !bytes.Equal(second, bytesOf(c)) {
			t.Fatalf("an answer that was grown: % x", long)
		}
	}
}

// The checkpoint that is handed in stays as it is.
func TestWriteLeavesTheCheckpoint(t *testing.T) {
	for _, before := range checkpoints() {
		c := before
		spoil(wantBytes(t, c))
		if c != before {
			t.Fatalf("Write(%+v) changed it to %+v", before, c)
		}
	}
}

// What was asked ahead, and refused ahead, is not seen in an answer.
func TestAnswersHangOnTheArgumentsAlone(t *testing.T) {
	c := unlike()
	b := bytesOf(c)
	s := source(2)
	for _, other := range checkpoints() {
		point.Write(other)
		other.Cursor = 96
		wantNoBytes(t, other)
		point.Read(s.nearly())
		wantNoCheckpoint(t, with(b, 173, 1))
		wantBytes(t, c)
		wantCheckpoint(t, b, c)
		wantBytes(t, api.Checkpoint{})
		wantCheckpoint(t, make([]byte, size), api.Checkpoint{})
	}
}

// Since nothing is kept, several may ask at one time.
func TestSeveralAskAtOneTime(t *testing.T) {
	var wait sync.WaitGroup
	for start := range 8 {
		wait.Add(1)
		go func() {
			defer wait.Done()
			s := source(start)
			for range 500 {
				c := s.checkpoint()
				b, err := point.Write(c)
				if again, fault := point.Read(b); err != nil || fault != nil || again != c || !bytes.Equal(b, bytesOf(c)) {
					t.Errorf("Write(%+v): % x, %v; Read of that: %+v, %v", c, b, err, again, fault)
					return
				}
			}
		}()
	}
	wait.Wait()
}
