package world

import "patina/api"

// lookOn takes over what is seen now. Harm that was seen once stays, also where its traces were erased.
func (w *World) lookOn() {
	_, err := w.Report()
	w.look.On, w.look.Mounted = w.chip.On(), err == nil
	g := seen(w.chip)
	w.look.Broken = w.look.Broken || g.broken()
	w.look.Worn = w.look.Worn || g.worn()
	for of, mark := range w.look.Marks {
		w.look.Marks[of] = max(mark, g.mark(of))
	}
}

// broken tells whether more was turned of some page than a device answers for.
func (g *sight) broken() bool {
	for place, of := range g.numbers() {
		first := tagChunk
		if of == api.Point {
			first = 0
		}
		if g.worst(place, first, tagChunk) > bears(of) {
			return true
		}
	}
	return false
}

// bears is how many damaged bytes of a codeword a page bears that counts for a number. Of one that counts for none no more is asked than that its tag isn't taken for another.
func bears(of int) int {
	if of == none {
		return api.Detect
	}
	return api.Correct
}

// worn tells whether more blocks have failed, or are bad, than there are to spare.
func (g *sight) worn() bool {
	many := 0
	for block, bad := range g.point.Bad {
		failed, _ := g.chip.Failed(block)
		if failed || bad {
			many++
		}
	}
	return many > api.SpareBlocks
}

// mark is what was borne by the data of the page that counts for a sector.
func (g *sight) mark(of int) int {
	place := g.live[of]
	if place == none {
		return api.Whole
	}
	switch worst := g.worst(place, 0, tagChunk-1); {
	case worst > api.Detect:
		return api.Gone
	case worst > api.Correct:
		return api.Weak
	}
	return api.Whole
}
