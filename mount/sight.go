package mount

import (
	"slices"

	"patina/api"
	"patina/claim"
	"patina/media"
	"patina/move"
	"patina/nand"
	"patina/point"
)

// sight is what was seen of a chip, each page of which was read once. So the data of checkpoints are kept with the tags, until it is known which of them is asked.
type sight struct {
	founds []api.Found
	points map[int][]byte // the data of the checkpoints that could be read, by their places
}

// look reads all pages of a chip.
func look(chip *nand.Chip) (sight, error) {
	if chip == nil {
		return sight{}, api.ErrArg
	}
	s := sight{points: map[int][]byte{}}
	m := media.New(chip)
	for place := range api.All {
		page, err := m.Read(place)
		if err != nil {
			return sight{}, err
		}
		s.add(place, page)
	}
	return s, nil
}

// add keeps what is needed of a page.
func (s *sight) add(place int, page api.Page) {
	if !page.Tagged {
		return
	}
	s.founds = append(s.founds, api.Found{Place: place, Tag: page.Tag})
	if page.Sound && page.Tag.Of == api.Point {
		s.points[place] = page.Data
	}
}

// core is the one of what was seen. Without a checkpoint nothing was ever written down: the chip is taken as new, whatever lies on it.
func (s *sight) core(chip *nand.Chip) (*move.Core, error) {
	k, is := s.checkpoint()
	if !is {
		return move.New(chip, api.Checkpoint{}, nil)
	}
	return move.New(chip, k, s.founds)
}

// checkpoint is the newest that can be read; false: there is none.
func (s *sight) checkpoint() (api.Checkpoint, bool) {
	// One that can't be read is left out of this list alone: for the core it is the page that counts.
	rest := slices.Clone(s.founds)
	for {
		f, is := claim.Newest(rest, api.Point, -1)
		if !is {
			return api.Checkpoint{}, false
		}
		if k, err := point.Read(s.points[f.Place]); err == nil {
			return k, true
		}
		rest = slices.DeleteFunc(rest, func(other api.Found) bool { return other.Place == f.Place })
	}
}
