package lang

import "helm/op"

// anywhere asks for what an expr is worked out to in a slot of no one's choice.
const anywhere = -1

// A named slot.
type named struct {
	name string
	slot int
}

// A coder lays down the code of a program that was checked.
type coder struct {
	code  []byte
	names []named
	free  int // slots from here on are held by nothing
}

func codeOf(program []statement) string {
	c := &coder{free: op.Registers}
	c.block(program)
	c.lay(op.End)
	return string(c.code)
}

// lay lays down an instruction, with as many numbers as it has.
func (c *coder) lay(o op.Op, numbers ...int) {
	c.code = append(c.code, byte(o))
	for _, n := range numbers {
		c.code = op.Append(c.code, n)
	}
}

// hold takes a slot.
func (c *coder) hold() int {
	c.free++
	return c.free - 1
}

// choose tells the slot that was asked for.
func (c *coder) choose(into int) int {
	if into == anywhere {
		return c.hold()
	}
	return into
}

// slotOf finds a name. The checker has seen that it is known.
func (c *coder) slotOf(name string) int {
	for _, n := range c.names {
		if n.name == name {
			return n.slot
		}
	}
	return anywhere
}

func (c *coder) know(name word, slot int) {
	c.names = append(c.names, named{name: name.text, slot: slot})
}

// block lays down statements; the slots of what they make are free behind them.
func (c *coder) block(list []statement) {
	outside, free := len(c.names), c.free
	for _, s := range list {
		s.lay(c)
	}
	c.names, c.free = c.names[:outside], free
}

// store works an expr out to a slot that is held.
func (c *coder) store(slot int, from expr) {
	free := c.free
	if given := from.give(c, slot); given != slot {
		c.lay(op.Copy, slot, given)
	}
	c.free = free
}

// A var takes the slot in which what it is given comes to stand, unless that is
// another name's.
func (s *making) lay(c *coder) {
	slot := c.free
	given := s.from.give(c, anywhere)
	if given != slot {
		c.lay(op.Copy, slot, given)
	}
	c.free = slot + 1
	c.know(s.name, slot)
}

func (s *setting) lay(c *coder) { c.store(c.slotOf(s.name.text), s.from) }

func (s *storing) lay(c *coder) { c.store(s.register, s.from) }

func (s *pushing) lay(c *coder) {
	free := c.free
	road := s.road.give(c, anywhere)
	packet := s.packet.give(c, anywhere)
	c.lay(op.Push, road, packet)
	c.free = free
}

func (s *returning) lay(c *coder) { c.lay(op.Return) }

func (s *choice) lay(c *coder) {
	if s.isSure {
		c.block(s.yes)
		return
	}
	free := c.free
	condition := s.condition.give(c, anywhere)
	c.free = free
	c.lay(op.If, condition)
	c.block(s.yes)
	if len(s.no) > 0 {
		c.lay(op.Else)
		c.block(s.no)
	}
	c.lay(op.End)
}

// What the block does must not change which ones are gone through: so the
// filters are done with ahead of it.
func (s *loop) lay(c *coder) {
	outside, free := len(c.names), c.free
	over := c.filtered(s.over)
	c.lay(op.Loop, s.over.list(), over, over)
	c.know(s.name, over)
	c.block(s.body)
	c.lay(op.End)
	c.names, c.free = c.names[:outside], free
}

// list tells the set's list of the view.
func (s *set) list() int {
	switch s.base {
	case "FRESH":
		return op.Fresh
	case "AGAIN":
		return op.Again
	}
	return op.Roads
}

// filtered works a set out, and tells its slot, which is held.
func (c *coder) filtered(s *set) int {
	slot := c.hold()
	if len(s.filters) == 0 {
		c.lay(op.All, slot, s.list())
		return slot
	}
	c.lay(op.Number, slot, 0)
	one := c.open(s)
	c.lay(op.Keep, slot, one)
	c.lay(op.End)
	c.free = slot + 1
	return slot
}

// open begins a loop through a set, and tells the slot of each one. Those that
// a filter does not keep are skipped: exprs change nothing, so the filters need
// not be done one after the other.
func (c *coder) open(s *set) int {
	one := c.hold()
	c.lay(op.All, one, s.list())
	c.lay(op.Loop, s.list(), one, one)
	for _, filter := range s.filters {
		free := c.free
		condition := c.inside(filter, one)
		c.lay(op.Skip, condition)
		c.free = free
	}
	return one
}

// inside works out what stands in a set's brackets.
func (c *coder) inside(b bracket, one int) int {
	outside := len(c.names)
	c.know(b.name, one)
	given := b.body.give(c, anywhere)
	c.names = c.names[:outside]
	return given
}
