package front_test

import (
	"testing"

	"patina/front"
)

// P13.5, by the Front's own answers alone.

// wantRoomAsTake asks of a number both ways, and gives the place; -1: there is none.
func wantRoomAsTake(t *testing.T, f *front.Front, of int) int {
	t.Helper()
	room := f.Room(of)
	place, err := f.Take(of)
	if room != (err == nil) {
		t.Fatalf("Room(%d): %v, and Take(%d): %d, %v", of, room, of, place, err)
	}
	if err != nil {
		return -1
	}
	return place
}

// Of every number wherever a Front may stand, as long as there is something to take, and beyond.
func TestRoomTellsWhetherTakeAnswersAPlace(t *testing.T) {
	for _, s := range stands() {
		for _, of := range append(numbers(), noNumbers()...) {
			f := standing(t, s)
			for range 10 {
				wantRoomAsTake(t, f, of)
			}
		}
	}
}

// Whichever numbers are taken for, and however many are refused between.
func TestPlacesRiseByOne(t *testing.T) {
	s := source(31)
	all := append(numbers(), noNumbers()...)
	for _, block := range blocks() {
		for _, index := range indexes() {
			f := standing(t, stand{block, index})
			due := 8*block + index
			for range 60 {
				of := s.of(all)
				if s.below(3) == 0 {
					of = 24
				}
				place := wantRoomAsTake(t, f, of)
				if place == -1 {
					continue
				}
				if place != due {
					t.Fatalf("Take(%d): %d, behind %d", of, place, due-1)
				}
				due++
			}
			if due > 8*block+8 {
				t.Fatalf("pages up to %d of the block %d were taken", due-1, block)
			}
		}
	}
}

// Of a whole block so many pages are taken as there are: six by sectors, eight by the checkpoint, each once.
func TestPagesOfAWholeBlock(t *testing.T) {
	for _, block := range blocks() {
		for _, of := range numbers() {
			f := standing(t, stand{block, 0})
			many := 0
			for f.Room(of) && many < 100 {
				if place := wantRoomAsTake(t, f, of); place != 8*block+many {
					t.Fatalf("the page %d of the block %d: %d", many, block, place)
				}
				many++
			}
			if of == 24 && many != 8 || of != 24 && many != 6 {
				t.Errorf("the number %d was given %d pages of the block %d", of, many, block)
			}
		}
	}
}

// Opened there, or come there page by page: behind the index 5 the checkpoint alone has room, behind 7 nothing.
func TestBehindTheSectorsPages(t *testing.T) {
	for _, block := range blocks() {
		for _, begin := range indexes() {
			f := standing(t, stand{block, begin})
			for index := begin; index <= 8; index++ {
				for _, of := range numbers() {
					room := index <= 5 || of == 24 && index <= 7
					if f.Room(of) != room {
						t.Fatalf("at the index %d of the block %d, begun at %d: Room(%d): %v", index, block, begin, of, !room)
					}
				}
				f.Take(24)
			}
		}
	}
}

// Calls of all kinds, each answer as the chapter tells it.
func TestCallsOfAllKinds(t *testing.T) {
	s := source(32)
	for range 60 {
		f, told := &front.Front{}, nowhere
		for range 400 {
			s.step(t, f, &told)
			wantStands(t, f, told)
		}
	}
}
