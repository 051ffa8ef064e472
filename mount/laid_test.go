package mount_test

import (
	"testing"

	"patina/api"
	"patina/frame"
	"patina/media"
	"patina/nand"
	"patina/point"
	"patina/tag"
)

// Chips on which pages are laid by hand.

// lay programs a page.
func lay(t *testing.T, chip *nand.Chip, mark api.Tag, data []byte) {
	t.Helper()
	page := make([]byte, 174)
	copy(page, data)
	if err := media.New(chip).Program(mark.Place, mark, page); err != nil {
		t.Fatalf("%+v isn't programmed: %v", mark, err)
	}
}

// laySector programs a sector's page.
func laySector(t *testing.T, chip *nand.Chip, place, of int, seq int64) {
	t.Helper()
	lay(t, chip, api.Tag{Place: place, Of: of, Seq: seq}, text(of, int(seq)))
}

// layPoint programs a checkpoint.
func layPoint(t *testing.T, chip *nand.Chip, place int, seq int64, copied int, k api.Checkpoint) {
	t.Helper()
	data, err := point.Write(k)
	if err != nil {
		t.Fatal(err)
	}
	lay(t, chip, api.Tag{Place: place, Of: 24, Seq: seq, Copy: copied}, data)
}

// chunksOf are the four chunks of a page.
func chunksOf(t *testing.T, mark api.Tag, data []byte) [][]byte {
	t.Helper()
	body, err := tag.Encode(mark)
	if err != nil {
		t.Fatal(err)
	}
	page := make([]byte, 174)
	copy(page, data)
	chunks, err := frame.New().Lay(page, body)
	if err != nil {
		t.Fatal(err)
	}
	return chunks
}

// layChunks programs some chunks of a page.
func layChunks(t *testing.T, chip *nand.Chip, place int, chunks [][]byte, which ...int) {
	t.Helper()
	for _, chunk := range which {
		if err := chip.Write(place, chunk, chunks[chunk]); err != nil {
			t.Fatal(err)
		}
	}
}

// hurt turns a bit each of so many bytes of a page's chunk.
func hurt(chip *nand.Chip, place, chunk, many int) {
	for i := range many {
		chip.Flip(place, 512*chunk+8*(13*i%64+i/64+3)%512+i%8)
	}
}
