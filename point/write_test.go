package point_test

import (
	"bytes"
	"math"
	"testing"

	"patina/api"
	"patina/point"
)

// The examples of the chapter's table.

func TestExamplesOfWrite(t *testing.T) {
	if b, err := point.Write(api.Checkpoint{}); err != nil || !bytes.Equal(b, make([]byte, 174)) {
		t.Errorf("Write of nothing set: % x, %v", b, err)
	}
	want := make([]byte, 174)
	for at, v := range map[int]byte{5: 2, 6: 1, 120: 3, 125: 1, 126: 8, 127: 95, 150: 0, 151: 2, 152: 2} {
		want[at] = v
	}
	if b, err := point.Write(example()); err != nil || !bytes.Equal(b, want) {
		t.Errorf("Write(%+v): % x, %v, want % x", example(), b, err, want)
	}
	wantNoBytes(t, api.Checkpoint{Cursor: 96})
	wantNoBytes(t, api.Checkpoint{Next: 1 << 40})
	wantNoBytes(t, api.Checkpoint{Reads: [12]int{3: 65536}})
}

// P9.1: each number by itself, at its own bytes and no others.

func TestEachNumberAtItsOwnBytes(t *testing.T) {
	for _, n := range numbers() {
		for _, v := range n.may() {
			var c api.Checkpoint
			n.put(&c, v)
			b := wantBytes(t, c)
			for i, part := range b {
				want := byte(0)
				if i >= n.at && i < n.at+n.wide {
					want = byte(v >> (8 * (i - n.at)))
				}
				if part != want {
					t.Fatalf("%s %d: byte %d is %d, want %d", n.name, v, i, part, want)
				}
			}
		}
	}
}

// A number that is set beside others, whatever these are, leaves their bytes.
func TestEachNumberLeavesTheOthersBytes(t *testing.T) {
	for _, base := range []api.Checkpoint{example(), greatest(), unlike()} {
		before := wantBytes(t, base)
		for _, n := range numbers() {
			for _, v := range n.may() {
				c := base
				n.put(&c, v)
				b := wantBytes(t, c)
				if !bytes.Equal(b[:n.at], before[:n.at]) || !bytes.Equal(b[n.at+n.wide:], before[n.at+n.wide:]) {
					t.Fatalf("%s %d: bytes of others are % x, ahead of it % x", n.name, v, b, before)
				}
			}
		}
	}
}

func TestEachBadBlockIsABitOfItsOwn(t *testing.T) {
	lay := [12][2]byte{{1, 0}, {2, 0}, {4, 0}, {8, 0}, {16, 0}, {32, 0}, {64, 0}, {128, 0}, {0, 1}, {0, 2}, {0, 4}, {0, 8}}
	for block, pair := range lay {
		var c api.Checkpoint
		c.Bad[block] = true
		b := wantBytes(t, c)
		if want := with(make([]byte, size), 125, pair[0], pair[1]); !bytes.Equal(b, want) {
			t.Errorf("block %d bad: % x, want % x", block, b, want)
		}
	}
}

// Every set of bad blocks: the number that it is, and nothing else.
func TestEverySetOfBadBlocks(t *testing.T) {
	for set := range 1 << 12 {
		for _, base := range []api.Checkpoint{{}, unlike()} {
			c := base
			for block := range c.Bad {
				c.Bad[block] = set>>block&1 == 1
			}
			b := wantBytes(t, c)
			want := with(bytesOf(base), 125, byte(set%256), byte(set/256))
			if !bytes.Equal(b, want) {
				t.Fatalf("bad blocks %012b: % x, want % x", set, b, want)
			}
			wantCheckpoint(t, b, c)
		}
	}
}

func TestEveryCursor(t *testing.T) {
	for cursor := -300; cursor < 600; cursor++ {
		c := unlike()
		c.Cursor = cursor
		if cursor >= 0 && cursor <= 95 {
			wantBytes(t, c)
		} else {
			wantNoBytes(t, c)
		}
	}
}

func TestEveryCountOfReadsAndEveryScore(t *testing.T) {
	for v := range 65536 {
		var c api.Checkpoint
		c.Reads[v%12], c.Scores[v%11] = v, v%256
		wantBytes(t, c)
	}
}

func TestWriteOfCheckpointsOfAllKinds(t *testing.T) {
	for _, c := range checkpoints() {
		wantBytes(t, c)
	}
	s := source(9)
	for range 20000 {
		wantBytes(t, s.checkpoint())
	}
}

// P9.1: checkpoints that can't be told.

func TestEachNumberThatCanNotBeTold(t *testing.T) {
	for _, n := range numbers() {
		for _, v := range n.mayNot() {
			for _, base := range []api.Checkpoint{{}, example(), greatest(), unlike()} {
				c := base
				n.put(&c, v)
				if canBeTold(c) {
					t.Fatalf("%s %d may be", n.name, v)
				}
				wantNoBytes(t, c)
			}
		}
		if t.Failed() {
			return
		}
	}
}

// Any two numbers that can't be told, and one that is as far above as the other is below.
func TestTwoNumbersThatCanNotBeTold(t *testing.T) {
	for i, a := range numbers() {
		for _, b := range numbers()[i+1:] {
			for _, v := range [][2]int64{{-1, -1}, {-1, b.greatest + 1}, {a.greatest + 1, -1}, {a.greatest + 1, b.greatest + 1}, {math.MinInt64, math.MaxInt64}} {
				c := unlike()
				a.put(&c, v[0])
				b.put(&c, v[1])
				wantNoBytes(t, c)
			}
		}
	}
}

func TestAllNumbersThatCanNotBeTold(t *testing.T) {
	for k := range numbers()[0].mayNot() {
		var c api.Checkpoint
		for _, n := range numbers() {
			n.put(&c, n.mayNot()[k])
		}
		wantNoBytes(t, c)
	}
}

// Checkpoints of which a few numbers, or none, are any of their types.
func TestWriteOfCheckpointsWithWildNumbers(t *testing.T) {
	told := 0
	s := source(5)
	all := numbers()
	for range 50000 {
		c := s.checkpoint()
		for range s.below(4) {
			n := all[s.below(int64(len(all)))]
			n.put(&c, int64(s.next()<<33^s.next())>>s.below(63))
		}
		if canBeTold(c) {
			told++
			wantBytes(t, c)
		} else {
			wantNoBytes(t, c)
		}
	}
	if told < 1000 || told > 49000 {
		t.Errorf("%d of the checkpoints could be told", told)
	}
}
