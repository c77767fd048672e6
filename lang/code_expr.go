package lang

import "helm/op"

// give lays down what works an expr out, and tells the slot in which that is
// then: into, if it is not anywhere; or, whatever into is, the one where it is
// anyway. What it gives anywhere, and no name has, is in the first slot that
// was free. Into may be the slot of a name that the expr uses: so nothing but
// the last instruction writes there.

func (e *number) give(c *coder, into int) int {
	slot := c.choose(into)
	c.lay(op.Number, slot, e.is)
	return slot
}

func (e *truth) give(c *coder, into int) int {
	slot := c.choose(into)
	c.lay(op.Number, slot, op.Truth(e.is))
	return slot
}

func (e *register) give(c *coder, into int) int { return e.index }

func (e *use) give(c *coder, into int) int { return c.slotOf(e.name.text) }

func (e *isNone) give(c *coder, into int) int { return c.one(op.IsNone, into, e.of) }

func (e *oneSided) give(c *coder, into int) int {
	if e.sign == "-" {
		return c.one(op.Minus, into, e.of)
	}
	return c.one(op.Not, into, e.of)
}

func (e *property) give(c *coder, into int) int { return c.one(propertyOp(e.name.text), into, e.of) }

func (e *onRoad) give(c *coder, into int) int { return c.two(op.On, into, e.packet, e.road) }

func (e *twoSided) give(c *coder, into int) int {
	o, first, second := e.work()
	return c.two(o, into, first, second)
}

func (e *asking) give(c *coder, into int) int {
	free := c.free
	over := c.filtered(e.over)
	c.free = free
	slot := c.choose(into)
	if e.what == "count" {
		c.lay(op.Count, slot, over)
	} else {
		c.lay(op.First, slot, over)
	}
	return slot
}

func (e *measuring) give(c *coder, into int) int {
	answer := c.hold()
	best := c.hold() // the measure of the answer
	c.lay(op.Number, answer, e.ofNothing())
	one := c.open(e.over)
	with := c.inside(e.with, one)
	switch e.what {
	case "min":
		c.lay(op.Least, answer, best, one, with)
	case "max":
		c.lay(op.Most, answer, best, one, with)
	case "sum":
		c.lay(op.Add, answer, answer, with)
	case "any":
		c.lay(op.Or, answer, answer, with)
	}
	c.lay(op.End)
	c.free = answer + 1
	return answer
}

// ofNothing tells what the answer is where the set has none.
func (e *measuring) ofNothing() int {
	if e.kind == kindRoad || e.kind == kindPacket {
		return op.None
	}
	return 0
}

// one lays down an instruction that works something out from one expr.
func (c *coder) one(o op.Op, into int, of expr) int {
	free := c.free
	from := of.give(c, anywhere)
	c.free = free
	slot := c.choose(into)
	c.lay(o, slot, from)
	return slot
}

// two lays down an instruction that works something out from two exprs.
func (c *coder) two(o op.Op, into int, first, second expr) int {
	free := c.free
	a := first.give(c, anywhere)
	b := second.give(c, anywhere)
	c.free = free
	slot := c.choose(into)
	c.lay(o, slot, a, b)
	return slot
}

func propertyOp(name string) op.Op {
	switch name {
	case "id":
		return op.Id
	case "rtt":
		return op.Rtt
	case "cwnd":
		return op.Cwnd
	case "out":
		return op.Out
	case "lossy":
		return op.Lossy
	case "seq":
		return op.Seq
	}
	return op.Size
}

// work tells the instruction of an operation, and its sides in that one's order.
func (e *twoSided) work() (op.Op, expr, expr) {
	switch e.sign {
	case ">":
		return op.Less, e.right, e.left
	case ">=":
		return op.AtMost, e.right, e.left
	}
	return signOp(e.sign), e.left, e.right
}

func signOp(sign string) op.Op {
	switch sign {
	case "+":
		return op.Add
	case "-":
		return op.Sub
	case "*":
		return op.Mul
	case "/":
		return op.Div
	case "%":
		return op.Rem
	case "<":
		return op.Less
	case "<=":
		return op.AtMost
	case "==":
		return op.Equal
	case "!=":
		return op.Differ
	case "&&":
		return op.And
	}
	return op.Or
}
