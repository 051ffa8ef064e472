package front_test

import (
	"testing"

	"patina/api"
	"patina/front"
)

// The examples of the chapter's table.

func TestExampleOfAZeroOne(t *testing.T) {
	var f front.Front
	wantBlock(t, &f, -1)
	wantRoom(t, &f, 0, false)
	wantTake(t, &f, 0, 0, api.ErrNone)
	wantTake(t, &f, 25, 0, api.ErrArg)
}

func TestExampleOfTheLastPages(t *testing.T) {
	var f front.Front
	wantOpen(t, &f, 2, 5, nil)
	wantTake(t, &f, 3, 21, nil)
	wantRoom(t, &f, 3, false)
	wantTake(t, &f, 3, 0, api.ErrFull)
	wantTake(t, &f, 24, 22, nil)
	wantTake(t, &f, 24, 23, nil)
	wantTake(t, &f, 24, 0, api.ErrFull)
}

func TestExampleOfWrongOnes(t *testing.T) {
	var f front.Front
	wantOpen(t, &f, 12, 0, api.ErrArg)
	wantOpen(t, &f, 0, 9, api.ErrArg)
	wantOpen(t, &f, 0, 8, nil)
	wantRoom(t, &f, 24, false)
}

// P13.1.

// The zero Front, however it came about: it has no block, and there is nothing to take.
func TestZeroFront(t *testing.T) {
	wantAsTold(t, func() *front.Front { return &front.Front{} }, nowhere)
	wantAsTold(t, func() *front.Front { return new(front.Front) }, nowhere)
	wantAsTold(t, func() *front.Front { return &make([]front.Front, 3)[1] }, nowhere)
	wantAsTold(t, func() *front.Front {
		var in struct{ f front.Front }
		return &in.f
	}, nowhere)
}

func TestOpenOfEveryBlockAtEveryIndex(t *testing.T) {
	for _, block := range blocks() {
		for _, index := range indexes() {
			s := stand{block, index}
			wantAsTold(t, func() *front.Front { return standing(t, s) }, s)
			wantRest(t, standing(t, s), s)
		}
	}
}

// Of whatever a Front stands at: what isn't there is refused, and all stays as it was.
func TestOpenOfWhatIsNot(t *testing.T) {
	for _, s := range stands() {
		made := func() *front.Front {
			f := standing(t, s)
			for _, block := range noBlocks() {
				for _, index := range append(indexes(), noIndexes()...) {
					wantOpen(t, f, block, index, api.ErrArg)
				}
			}
			for _, index := range noIndexes() {
				for _, block := range blocks() {
					wantOpen(t, f, block, index, api.ErrArg)
				}
			}
			return f
		}
		wantStands(t, made(), s)
		wantRest(t, made(), s)
	}
}

// A refused one each, with everything asked behind it, of a Front that has a block, and of one that hasn't.
func TestARefusedOpenChangesNothing(t *testing.T) {
	for _, s := range []stand{nowhere, {0, 0}, {2, 5}, {11, 6}, {7, 8}} {
		for _, wrong := range []stand{{12, 0}, {-1, 0}, {0, 9}, {0, -1}, {12, 9}, {-1, -1}, {11, 9}, {12, 8}} {
			wantAsTold(t, func() *front.Front {
				f := standing(t, s)
				wantOpen(t, f, wrong.block, wrong.index, api.ErrArg)
				return f
			}, s)
		}
	}
}

// While a block is open, the same one or another, some of its pages taken or none: the one that is opened last is that of the Front, at its own index.
func TestOpenWhileABlockIsOpen(t *testing.T) {
	for _, first := range []stand{{0, 0}, {5, 4}, {5, 6}, {11, 8}} {
		for _, taken := range []int{0, 1, 3} {
			for _, block := range []int{0, 1, 5, 11} {
				for _, index := range indexes() {
					second := stand{block, index}
					made := func() *front.Front {
						f := standing(t, first)
						for range taken {
							f.Take(24)
						}
						wantOpen(t, f, block, index, nil)
						return f
					}
					wantStands(t, made(), second)
					wantRest(t, made(), second)
				}
			}
		}
	}
}

// P13.2.

// Whatever it stood at, and whatever was taken: behind Close a Front is as the zero one, behind a second Close too.
func TestClose(t *testing.T) {
	for _, s := range stands() {
		for _, taken := range []int{0, 2} {
			f := standing(t, s)
			for range taken {
				f.Take(24)
			}
			for range 2 {
				f.Close()
				wantStands(t, f, nowhere)
				for _, of := range numbers() {
					wantTake(t, f, of, 0, api.ErrNone)
				}
				for _, of := range noNumbers() {
					wantTake(t, f, of, 0, api.ErrArg)
				}
				wantStands(t, f, nowhere)
			}
		}
	}
}

// What is opened behind Close begins at its own index, with nothing of the elder one.
func TestOpenBehindClose(t *testing.T) {
	for _, first := range []stand{nowhere, {0, 0}, {5, 7}, {11, 8}} {
		for _, second := range stands()[1:] {
			f := standing(t, first)
			f.Take(24)
			f.Close()
			wantOpen(t, f, second.block, second.index, nil)
			wantRest(t, f, second)
		}
	}
}

// A refused Open behind Close opens nothing.
func TestARefusedOpenBehindClose(t *testing.T) {
	f := standing(t, stand{3, 2})
	f.Close()
	wantOpen(t, f, 3, 9, api.ErrArg)
	wantOpen(t, f, 12, 2, api.ErrArg)
	wantStands(t, f, nowhere)
	wantTake(t, f, 24, 0, api.ErrNone)
}

// The block stays that of Open, while its pages are taken, and when there is none left.
func TestBlockWhilePagesAreTaken(t *testing.T) {
	for _, block := range blocks() {
		f := standing(t, stand{block, 0})
		for range 12 {
			wantBlock(t, f, block)
			f.Take(24)
		}
		wantBlock(t, f, block)
	}
}
