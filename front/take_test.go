package front_test

import (
	"testing"

	"patina/api"
	"patina/front"
)

// P13.3.

func TestRoomOfEveryNumberAtEveryIndex(t *testing.T) {
	for _, block := range blocks() {
		for _, of := range numbers() {
			for _, index := range indexes() {
				last := 5
				if of == 24 {
					last = 7
				}
				wantRoom(t, standing(t, stand{block, index}), of, index <= last)
			}
		}
	}
}

func TestRoomWithoutABlock(t *testing.T) {
	closed := standing(t, stand{4, 0})
	closed.Close()
	for _, f := range []*front.Front{{}, closed} {
		for _, of := range append(numbers(), noNumbers()...) {
			wantRoom(t, f, of, false)
		}
	}
}

func TestRoomOfWhatIsNot(t *testing.T) {
	for _, s := range stands() {
		f := standing(t, s)
		for _, of := range noNumbers() {
			wantRoom(t, f, of, false)
		}
	}
}

// To ask is to take nothing: the next page is the same one, however often it was asked for.
func TestRoomChangesNothing(t *testing.T) {
	for _, s := range stands() {
		f := standing(t, s)
		for range 20 {
			for _, of := range append(numbers(), noNumbers()...) {
				f.Room(of)
			}
		}
		wantRest(t, f, s)
	}
}

// P13.4.

func TestTakeOfEveryNumberAtEveryIndex(t *testing.T) {
	for _, block := range blocks() {
		for _, of := range numbers() {
			for _, index := range indexes() {
				f := standing(t, stand{block, index})
				if index <= 5 || index <= 7 && of == 24 {
					wantTake(t, f, of, 8*block+index, nil)
					wantRest(t, f, stand{block, index + 1})
				} else {
					wantTake(t, f, of, 0, api.ErrFull)
					wantRest(t, f, stand{block, index})
				}
			}
		}
	}
}

// A number that isn't there is told first, whether there is a block or not, and a page or not.
func TestTakeOfWhatIsNot(t *testing.T) {
	for _, s := range stands() {
		f := standing(t, s)
		for _, of := range noNumbers() {
			wantTake(t, f, of, 0, api.ErrArg)
		}
		wantRest(t, f, s)
	}
}

// Without a block there is none for any number: ErrNone ahead of ErrFull, of a block too that was full when it was closed.
func TestTakeWithoutABlock(t *testing.T) {
	for _, index := range indexes() {
		for _, of := range numbers() {
			f := standing(t, stand{9, index})
			f.Close()
			wantTake(t, f, of, 0, api.ErrNone)
			wantTake(t, f, of, 0, api.ErrNone)
			wantStands(t, f, nowhere)
		}
	}
}

// Where a sector has no room any more, the checkpoint still has: a refused Take took no page.
func TestARefusedTakeChangesNothing(t *testing.T) {
	for _, s := range stands() {
		f, told := standing(t, s), s
		for range 9 {
			for range 3 {
				for _, of := range append(numbers()[:24], noNumbers()...) {
					if told.room(of) {
						continue
					}
					_, err := told.take(of)
					wantTake(t, f, of, 0, err)
				}
			}
			wantStands(t, f, told)
			place, err := told.take(24)
			wantTake(t, f, 24, place, err)
		}
	}
}

// Behind the last page ErrFull stays, however often it is asked.
func TestTakeOfAFullBlock(t *testing.T) {
	f := standing(t, stand{11, 7})
	wantTake(t, f, 24, 95, nil)
	for range 1000 {
		for _, of := range numbers() {
			wantTake(t, f, of, 0, api.ErrFull)
		}
	}
	wantStands(t, f, stand{11, 8})
	wantOpen(t, f, 0, 0, nil)
	wantRest(t, f, stand{0, 0})
}
