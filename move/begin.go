package move

import (
	"slices"

	"patina/api"
	"patina/claim"
	"patina/geom"
	"patina/health"
	"patina/media"
	"patina/nand"
	"patina/patrol"
	"patina/pmap"
	"patina/point"
	"patina/pool"
)

// begin is a core of what a checkpoint and the tags of a chip tell; any error: they can't be.
func begin(chip *nand.Chip, k api.Checkpoint, l []api.Found) (*Core, error) {
	if _, err := point.Write(k); err != nil {
		return nil, err
	}
	way, err := patrol.New(k.Cursor)
	if err != nil {
		return nil, err
	}
	counts, err := health.New(k.Reads[:], k.Scores[:])
	if err != nil {
		return nil, err
	}
	c := &Core{
		media:  media.New(chip),
		pool:   pool.New(),
		places: pmap.New(),
		floors: k.Floors,
		next:   claim.Next(l, k),
		spent:  isSpent(l, k),
		patrol: way,
		health: counts,
	}
	if err := c.layFound(l, k); err != nil {
		return nil, err
	}
	return c, c.setBlocks(k)
}

// layFound lays each number where it counts.
func (c *Core) layFound(l []api.Found, k api.Checkpoint) error {
	for of, place := range claim.Live(l, k) {
		if place == none {
			continue
		}
		if err := c.places.Set(of, place); err != nil {
			return err
		}
		f, _ := claim.Newest(lyingAt(l, place), of, none)
		// A list may tell a checkpoint of the seq 0, which no page can carry: it is moved as one of the least that can be.
		c.versions[of] = version{seq: max(f.Tag.Seq, 1), copy: f.Tag.Copy}
	}
	return nil
}

// setBlocks says which blocks are bad and full. In a bad one nothing counts.
func (c *Core) setBlocks(k api.Checkpoint) error {
	for block, live := range c.places.Live() {
		state := api.Free
		if live > 0 {
			state = api.Full
		}
		if k.Bad[block] {
			state = api.Bad
		}
		if err := c.pool.Set(block, state); err != nil {
			return err
		}
	}
	return nil
}

// lyingAt are the founds of one place.
func lyingAt(l []api.Found, place int) []api.Found {
	var there []api.Found
	for _, f := range l {
		if f.Place == place {
			there = append(there, f)
		}
	}
	return there
}

// isSpent tells whether the last seq of all was used: claim.Next tells it then as well.
func isSpent(l []api.Found, k api.Checkpoint) bool {
	for of := range numbers {
		if _, is := claim.Newest(l, of, api.MaxSeq-1); is {
			return true
		}
	}
	return slices.Contains(k.Floors[:], api.MaxSeq)
}

// blockOf is the block of a place. What is asked of here is a place, of which Parts tells no error.
func blockOf(place int) int {
	block, _, _ := geom.Parts(place)
	return block
}
