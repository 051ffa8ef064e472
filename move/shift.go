package move

import (
	"errors"

	"patina/api"
	"patina/front"
)

// shift is a move of a block that is under way.
type shift struct {
	from   int
	retire bool
	failed bool
	to     front.Front // the block that is copied into, taken with its first page: where nothing counts, none is
	laid   []api.Tag   // what is programmed in it
}

// move moves what counts in a block to another one. A block that has failed and can't be moved any more is bad, with what counts in it.
func (c *Core) move(s *shift) error {
	if s.failed {
		c.leave(s.from)
	}
	err := c.tries(s)
	if s.failed && errors.Is(err, api.ErrWornOut) {
		c.spoil(s.from)
		c.dead = true
	}
	return err
}

// tries tries a move until it is ended. Each try that isn't costs a block, so there are few.
func (c *Core) tries(s *shift) error {
	for !c.isBad(s.from) {
		err := c.try(s)
		if !errors.Is(err, api.ErrFail) {
			return err
		}
		// The copies in the block that failed must not count beside those of the next try.
		c.spoil(s.to.Block())
		if err := c.tell(); err != nil {
			return err
		}
	}
	// It was the frontier in which the failure was to be told, failed as well, and was moved for that.
	return nil
}

// try moves what counts in a block; ErrFail: the block that was copied into failed.
func (c *Core) try(s *shift) error {
	s.to, s.laid = front.Front{}, nil
	if s.failed && !c.bears() {
		return api.ErrWornOut
	}
	bad := s.failed || s.retire && c.bears()
	if err := c.copyOut(s, bad); err != nil {
		return err
	}
	if bad {
		return c.commitBad(s)
	}
	err := c.erase(s.from)
	if err == nil {
		return c.commit(s, api.Free)
	}
	if !errors.Is(err, api.ErrFail) {
		return err
	}
	s.failed = true
	c.leave(s.from)
	if !c.bears() {
		return api.ErrWornOut
	}
	return c.commitBad(s)
}

// copyOut programs what counts in a block, each page with its own seq and a copy one more. Where the block is to be bad its checkpoint is not copied: the commit is a new one.
func (c *Core) copyOut(s *shift, bad bool) error {
	in, err := c.places.Of(s.from)
	if err != nil {
		return err
	}
	for _, of := range in {
		if bad && of == api.Point {
			continue
		}
		data, lost, err := c.content(of)
		if err != nil {
			return err
		}
		place, err := c.takeIn(s, of)
		if err != nil {
			return err
		}
		v := c.versions[of]
		t := api.Tag{Place: place, Of: of, Seq: v.seq, Copy: (v.copy + 1) % copies, Lost: lost}
		if err := c.program(t, data); err != nil {
			return err
		}
		s.laid = append(s.laid, t)
	}
	return nil
}

// content is what a number's page holds, and whether that is lost.
func (c *Core) content(of int) ([]byte, bool, error) {
	place, err := c.places.At(of)
	if err != nil {
		return nil, false, err
	}
	page, err := c.read(place)
	if err != nil {
		return nil, false, err
	}
	if page.Sound {
		return page.Data, page.Tag.Lost, nil
	}
	if of == api.Point {
		// What a checkpoint tells is known here: it is never lost.
		known := c.telling(nothingMore)
		return known(c.versions[of].seq), false, nil
	}
	return make([]byte, api.Data), true, nil
}

// takeIn is the next page of the block that is copied into.
func (c *Core) takeIn(s *shift, of int) (int, error) {
	if s.to.Block() == none {
		block, err := c.pool.Take()
		if err != nil {
			return 0, api.ErrWornOut
		}
		// It isn't the frontier, and no other block may be erased in its stead.
		c.setState(block, api.Full)
		if err := s.to.Open(block, 0); err != nil {
			return 0, err
		}
	}
	return s.to.Take(of)
}

// commitBad ends a move by a checkpoint that tells the block as bad.
func (c *Core) commitBad(s *shift) error {
	place, err := c.takeIn(s, api.Point)
	if err != nil {
		return err
	}
	t, err := c.fresh(place, api.Point, c.telling(func(k *api.Checkpoint) { k.Bad[s.from] = true }))
	if err != nil {
		return err
	}
	s.laid = append(s.laid, t)
	return c.commit(s, api.Bad)
}

// commit says that the copies count, and what the block is that they were made of. The block that they lie in is gone on with as the frontier.
func (c *Core) commit(s *shift, state int) error {
	for _, t := range s.laid {
		if err := c.lay(t); err != nil {
			return err
		}
	}
	c.leave(s.from)
	c.setState(s.from, state)
	if to := s.to.Block(); to != none {
		c.closeFront()
		c.front = s.to
		c.setState(to, api.Open)
	}
	c.moves += len(s.laid)
	return nil
}

// tell programs a checkpoint that tells which blocks are bad, between two tries of a move. The bound isn't asked: it is for this that so many blocks are kept free.
func (c *Core) tell() error {
	if c.worn() || c.spent {
		return api.ErrWornOut
	}
	if !c.front.Room(api.Point) {
		c.closeFront()
		if err := c.openFront(); err != nil {
			return err
		}
	}
	return c.Note()
}

// spoil says that a block is bad. If no checkpoint can tell so, the chip must stay as it is.
func (c *Core) spoil(block int) {
	c.leave(block)
	c.setState(block, api.Bad)
	c.dead = c.dead || c.pool.Worn() || c.spent
}

// leave ends the frontier, if it is in that block.
func (c *Core) leave(block int) {
	if c.front.Block() == block {
		c.closeFront()
	}
}

// isBad tells whether a block is bad.
func (c *Core) isBad(block int) bool {
	state, err := c.pool.State(block)
	return err != nil || state == api.Bad
}

// setState is a block's new state. None is refused here: it is a block's, and one that is bad is given no other.
func (c *Core) setState(block, state int) { _ = c.pool.Set(block, state) }
