package tag_test

import (
	"bytes"
	"testing"

	"patina/api"
	"patina/tag"
)

// R3 and R4: what is handed in stays as it is, what is answered is its owner's, nothing is kept.

// spoil grows an answer, and writes over all of it, spare room too.
func spoil(b []byte) {
	grown := append(b, bytes.Repeat([]byte{0x5a}, 60)...)
	for i := len(b); i < len(grown); i++ {
		grown[i] ^= 0x33
	}
	b = b[:cap(b)]
	for i := range b {
		b[i] ^= 0xa5
	}
}

func TestDecodeLeavesTheBody(t *testing.T) {
	bodies := append(bases(), make([]byte, bodySize), bytes.Repeat([]byte{0xff}, bodySize))
	for _, base := range bases() {
		bodies = append(bodies, with(base, 9, 7), with(base, 49, 1), base[:49], append(bytes.Clone(base), 0))
	}
	for _, body := range bodies {
		room := bytes.Repeat([]byte{0xc3}, len(body)+80)
		copy(room[40:], body)
		before := bytes.Clone(room)
		tag.Decode(room[40 : 40+len(body)])
		if !bytes.Equal(room, before) {
			t.Errorf("Decode(% x) changed it, or what stands beside it", body)
		}
	}
}

// A body that is written over changes no tag that was read of it, and the next answer hangs on what stands there then.
func TestDecodeKeepsNoBody(t *testing.T) {
	for _, base := range bases() {
		want, _ := tagOf(base)
		body := bytes.Clone(base)
		got, err := tag.Decode(body)
		spoil(body)
		if got != want || err != nil {
			t.Errorf("Decode(% x): %+v, %v, want %+v", base, got, err, want)
		}
		wantNoTag(t, body, api.ErrForm)
		wantTag(t, base, want)
	}
}

// What lies behind a body, in its own room, is not looked at.
func TestDecodeOfABodyWithOthersBytesBehindIt(t *testing.T) {
	for _, base := range bases() {
		want, _ := tagOf(base)
		room := append(bytes.Clone(base), bytes.Repeat([]byte{0xff}, 50)...)
		wantTag(t, room[:bodySize], want)
		wantTag(t, room[:bodySize:bodySize], want)
	}
}

// An answer that is written over and grown changes none ahead of it and none behind it.
func TestEncodeAnswersNewMemory(t *testing.T) {
	tags := tagsThatMayBe()
	for i, g := range tags {
		other := tags[len(tags)-1-i]
		first, second, third := encode(t, g), encode(t, g), encode(t, other)
		spoil(first)
		if !bytes.Equal(second, bodyOf(g)) || !bytes.Equal(third, bodyOf(other)) {
			t.Fatalf("what Encode(%+v) answered shares memory with another answer", g)
		}
		wantMay(t, g)
		wantTag(t, second, g)
	}
}

// A body may be grown by its owner without meeting anybody's bytes.
func TestGrowingABody(t *testing.T) {
	g := api.Tag{Place: 3, Of: 5, Seq: 9, Copy: 1}
	body := encode(t, g)
	long := append(body, bytes.Repeat([]byte{0xff}, 100)...)
	if !bytes.Equal(long[:bodySize], bodyOf(g)) || !bytes.Equal(body, bodyOf(g)) {
		t.Errorf("a body that was grown: % x", long)
	}
	wantMay(t, g)
}

// What was asked ahead, and refused ahead, is not seen in an answer.
func TestAnswersHangOnTheArgumentsAlone(t *testing.T) {
	g := api.Tag{Place: 61, Of: 17, Seq: 0xa9a8a7a6a5, Copy: 0xb1, Lost: true}
	for _, c := range trials() {
		tag.Check(c.tag)
		tag.Encode(c.tag)
		tag.Decode(bodyOf(c.tag))
		wantMay(t, g)
		wantTag(t, bodyOf(g), g)
		if t.Failed() {
			return
		}
	}
}
