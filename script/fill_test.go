package script_test

import (
	"math/big"
	"testing"

	"patina/script"
)

// P21.1.

// wantFill holds every byte against what it is in numbers without bounds.
func wantFill(t *testing.T, v int) {
	t.Helper()
	b := script.Fill(v)
	if len(b) != 160 {
		t.Fatalf("Fill(%d): %d bytes", v, len(b))
	}
	for i := range b {
		want := big.NewInt(int64(v))
		want.Add(want, big.NewInt(7*int64(i)))
		want.Mod(want, big.NewInt(256))
		if int64(b[i]) != want.Int64() {
			t.Fatalf("Fill(%d): the byte %d is %d, want %d", v, i, b[i], want)
		}
	}
}

func TestFill(t *testing.T) {
	for v := -1100; v <= 1100; v++ {
		wantFill(t, v)
	}
}

func TestFillAtTheEnds(t *testing.T) {
	for _, v := range ends() {
		for d := -300; d <= 300; d++ {
			wantFill(t, v+d)
		}
	}
}

func TestFillOfAnyNumber(t *testing.T) {
	s := source(11)
	for range 5000 {
		wantFill(t, s.number())
	}
}

// Numbers that are alike modulo 256 fill alike, all others otherwise in every byte.
func TestFillsApart(t *testing.T) {
	for v := range 256 {
		one, other := script.Fill(v), script.Fill(v+1)
		if string(one) != string(script.Fill(v-256)) || string(one) != string(script.Fill(v+512)) {
			t.Fatalf("Fill(%d) isn't Fill(%d)", v, v-256)
		}
		for i := range one {
			if one[i] == other[i] {
				t.Fatalf("Fill(%d) and Fill(%d) have the same byte %d", v, v+1, i)
			}
		}
	}
}
