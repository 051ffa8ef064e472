package move

import "patina/api"

// awaitTired lets the blocks wait that were read too often, and in which something counts.
func (c *Core) awaitTired() {
	for block, live := range c.places.Live() {
		if tired, err := c.health.Tired(block); err == nil && tired && live > 0 {
			c.queue.Add(block)
		}
	}
}

// refreshAll moves the blocks that wait.
func (c *Core) refreshAll() error {
	for !c.worn() {
		block, waits := c.queue.Next()
		if !waits {
			return nil
		}
		if err := c.refresh(block); err != nil {
			return err
		}
	}
	return api.ErrWornOut
}

// refresh moves a block that waited, if something counts in it still.
func (c *Core) refresh(block int) error {
	in, err := c.places.Of(block)
	if err != nil || len(in) == 0 {
		return err
	}
	weak, err := c.health.Weak(block)
	if err != nil {
		return err
	}
	if err := c.move(&shift{from: block, retire: weak}); err != nil {
		return err
	}
	c.reports++
	c.moved += len(in)
	return nil
}
