package world

import (
	"patina/api"
	"patina/claim"
	"patina/nand"
	"patina/point"
	"patina/tag"
	"patina/wire"
)

const (
	tagChunk = api.Chunks - 1 // those ahead of it are of data
	none     = -1             // stands for no place, and for no number
)

// sight is what is to be seen of a chip: what counts, by what was programmed, whatever was turned since.
type sight struct {
	chip  *nand.Chip
	point api.Checkpoint
	live  [api.Sectors + 1]int
}

// seen looks at a chip.
func seen(chip *nand.Chip) *sight {
	g := &sight{chip: chip}
	founds := g.founds()
	k, is := g.checkpoint(founds)
	if !is {
		// Nothing counts that no checkpoint tells of: a mount takes such a chip as new.
		founds = nil
	}
	g.point, g.live = k, claim.Live(founds, k)
	return g
}

// founds are the tags that pages were programmed with as their own.
func (g *sight) founds() []api.Found {
	var l []api.Found
	for place := range api.All {
		if t, is := g.tag(place); is {
			l = append(l, api.Found{Place: place, Tag: t})
		}
	}
	return l
}

// tag is the tag that a page was programmed with; false: with none, or with another page's.
func (g *sight) tag(place int) (api.Tag, bool) {
	message, is := g.message(place, tagChunk)
	if !is {
		return api.Tag{}, false
	}
	body, err := wire.Open(message)
	if err != nil {
		return api.Tag{}, false
	}
	t, err := tag.Decode(body)
	if err != nil || t.Place != place {
		return api.Tag{}, false
	}
	return t, true
}

// checkpoint is the newest one of the founds; false: there is none, or its page was programmed with other data.
func (g *sight) checkpoint(founds []api.Found) (api.Checkpoint, bool) {
	newest, is := claim.Newest(founds, api.Point, -1)
	if !is {
		return api.Checkpoint{}, false
	}
	var data []byte
	for chunk := range tagChunk {
		message, is := g.message(newest.Place, chunk)
		if !is {
			return api.Checkpoint{}, false
		}
		data = append(data, message...)
	}
	k, err := point.Read(data)
	return k, err == nil
}

// message is that of the codeword that a chunk was programmed with; false: it was with none.
func (g *sight) message(place, chunk int) ([]byte, bool) {
	word, programmed, err := g.chip.Truth(place, chunk)
	if err != nil || !programmed || !isCodeword(word) {
		return nil, false
	}
	return word[:api.Message], true
}

// numbers are the numbers for which the pages count.
func (g *sight) numbers() [api.All]int {
	var of [api.All]int
	for place := range of {
		of[place] = none
	}
	for number, place := range g.live {
		if place != none {
			of[place] = number
		}
	}
	return of
}

// worst is the greatest worst of a page's chunks, from the first of them to the last.
func (g *sight) worst(place, first, last int) int {
	most := 0
	for chunk := first; chunk <= last; chunk++ {
		_, worst, _ := g.chip.Damage(place, chunk)
		most = max(most, worst)
	}
	return most
}
