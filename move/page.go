package move

import (
	"errors"

	"patina/api"
	"patina/gc"
	"patina/point"
)

// holder makes what a page is to hold, of the seq that it is given.
type holder func(seq int64) []byte

// read reads a page.
func (c *Core) read(place int) (api.Page, error) {
	page, err := c.media.Read(place)
	if err != nil {
		return api.Page{}, err
	}
	c.countReads(blockOf(place), 1)
	return page, nil
}

// program programs a page. Its reading back is a read of its block like any other.
func (c *Core) program(t api.Tag, data []byte) error {
	ahead := c.media.Reads()
	err := c.media.Program(t.Place, t, data)
	c.countReads(blockOf(t.Place), c.media.Reads()-ahead)
	return failure(err)
}

// erase erases a block.
func (c *Core) erase(block int) error {
	if err := c.media.Erase(block); err != nil {
		return failure(err)
	}
	return c.health.Erased(block)
}

// eraseFree erases the free blocks, each of them, and tells whether one of them failed.
func (c *Core) eraseFree() (bool, error) {
	failed := false
	for block, state := range c.pool.States() {
		if state != api.Free {
			continue
		}
		err := c.erase(block)
		if errors.Is(err, api.ErrPower) {
			return false, err
		}
		if err != nil {
			c.spoil(block)
			failed = true
		}
	}
	return failed, nil
}

// failure is ErrFail, for whatever reason a block was not programmed or erased; but where the power went nothing is known of the block.
func failure(err error) error {
	if err == nil || errors.Is(err, api.ErrPower) {
		return err
	}
	return api.ErrFail
}

// countReads counts so many reads of a block.
func (c *Core) countReads(block, many int) {
	for range many {
		if c.health.Read(block) != nil {
			return
		}
	}
}

// inspect reads a page, and reports its block if what counts there is damaged.
func (c *Core) inspect(place int) (api.Page, error) {
	page, err := c.read(place)
	if err != nil {
		return api.Page{}, err
	}
	if _, err := c.places.Owner(place); err != nil {
		return page, nil
	}
	if page.Sound && page.Damage < api.RefreshAt {
		return page, nil
	}
	block := blockOf(place)
	if err := c.health.Report(block); err != nil {
		return api.Page{}, err
	}
	return page, c.queue.Add(block)
}

// anew programs a page at the frontier. A frontier that fails is moved, and the page is programmed with a new seq.
func (c *Core) anew(of int, hold holder) error {
	for !c.worn() && !c.spent {
		if err := c.makeRoom(of); err != nil {
			return err
		}
		place, err := c.front.Take(of)
		if err != nil {
			return err
		}
		t, err := c.fresh(place, of, hold)
		if err == nil {
			return c.lay(t)
		}
		if !errors.Is(err, api.ErrFail) {
			return err
		}
		if err := c.move(&shift{from: c.front.Block(), failed: true}); err != nil {
			return err
		}
	}
	return api.ErrWornOut
}

// fresh programs a page with the next seq, and tells its tag.
func (c *Core) fresh(place, of int, hold holder) (api.Tag, error) {
	if c.spent {
		return api.Tag{}, api.ErrWornOut
	}
	t := api.Tag{Place: place, Of: of, Seq: c.takeSeq()}
	if err := c.program(t, hold(t.Seq)); err != nil {
		return api.Tag{}, err
	}
	if of == api.Point {
		c.patrol.Noted()
		c.health.Noted()
	}
	return t, nil
}

// takeSeq is the next seq, which isn't spent. It is used from now on, whatever becomes of its page: a page that fails may carry it.
func (c *Core) takeSeq() int64 {
	seq := c.next
	c.spent = seq == api.MaxSeq
	c.next = min(seq+1, api.MaxSeq)
	return seq
}

// lay says that a page counts.
func (c *Core) lay(t api.Tag) error {
	c.versions[t.Of] = version{seq: t.Seq, copy: t.Copy}
	return c.places.Set(t.Of, t.Place)
}

// makeRoom makes the frontier one that has a page for a number.
func (c *Core) makeRoom(of int) error {
	for !c.front.Room(of) {
		c.closeFront()
		if c.pool.Spare() {
			if err := c.openFront(); err != nil {
				return err
			}
			continue
		}
		block, err := gc.Choose(c.pool.States(), c.places.Live())
		if err != nil {
			return api.ErrWornOut
		}
		if err := c.move(&shift{from: block}); err != nil {
			return err
		}
	}
	return nil
}

// closeFront ends the frontier, if there is one: its block is full.
func (c *Core) closeFront() {
	block := c.front.Block()
	if block == none {
		return
	}
	c.front.Close()
	c.setState(block, api.Full)
}

// openFront begins the frontier in a free block.
func (c *Core) openFront() error {
	block, err := c.pool.Take()
	if err != nil {
		return api.ErrWornOut
	}
	return c.front.Open(block, 0)
}

// telling makes the bytes of a checkpoint that tells how all stands, but for what more changes in it.
func (c *Core) telling(more func(k *api.Checkpoint)) holder {
	return func(seq int64) []byte {
		k := c.checkpoint(seq)
		more(&k)
		// All its numbers are within their bounds where they are kept: it can be told.
		data, _ := point.Write(k)
		return data
	}
}

// nothingMore leaves a checkpoint as it is.
func nothingMore(*api.Checkpoint) {}

// checkpoint tells how all stands, as one of that seq.
func (c *Core) checkpoint(seq int64) api.Checkpoint {
	k := api.Checkpoint{Floors: c.floors, Next: seq, Cursor: c.patrol.Cursor()}
	for block, state := range c.pool.States() {
		k.Bad[block] = state == api.Bad
	}
	copy(k.Reads[:], c.health.Reads())
	copy(k.Scores[:], c.health.Scores())
	return k
}
