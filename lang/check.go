package lang

import "helm/api"

// A known name.
type known struct {
	name  string
	kind  kind
	isVar bool
}

// A checker goes through a program in the order of its text.
type checker struct {
	names []known // the innermost ones last
	fault fault   // the first one met: later ones do not count
}

func (c *checker) fail(errno api.Errno, at int) {
	if c.fault.errno == api.OK {
		c.fault = fault{errno: errno, at: at}
	}
}

// want asks that an expr that has ended is of a type.
func (c *checker) want(e expr, is kind) {
	if e.sort() != is {
		c.fail(api.ErrType, e.place())
	}
}

// find tells what a name is known as; the zero value, if it is not known.
func (c *checker) find(name string) known {
	for _, k := range c.names {
		if k.name == name {
			return k
		}
	}
	return known{}
}

// wantNew asks that a name that is to be made is not known yet.
func (c *checker) wantNew(name word) {
	if c.find(name.text).kind != kindNone {
		c.fail(api.ErrName, name.at)
	}
}

func (c *checker) add(name word, is kind, isVar bool) {
	c.names = append(c.names, known{name: name.text, kind: is, isVar: isVar})
}

// block looks at statements; what they make is not known behind them.
func (c *checker) block(list []statement) {
	outside := len(c.names)
	for _, s := range list {
		s.look(c)
	}
	c.names = c.names[:outside]
}

// bracket looks at what is worked out for one of a set.
func (c *checker) bracket(b bracket, one, want kind) {
	c.wantNew(b.name)
	outside := len(c.names)
	c.add(b.name, one, false)
	b.body.look(c)
	c.want(b.body, want)
	c.names = c.names[:outside]
}

func (c *checker) set(s *set) {
	for _, filter := range s.filters {
		c.bracket(filter, s.of, kindTruth)
	}
}

func (s *making) look(c *checker) {
	c.wantNew(s.name)
	s.from.look(c)
	c.add(s.name, s.from.sort(), true)
}

func (s *setting) look(c *checker) {
	target := c.find(s.name.text)
	if !target.isVar {
		c.fail(api.ErrName, s.name.at)
	}
	s.from.look(c)
	c.want(s.from, target.kind)
}

func (s *storing) look(c *checker) {
	s.from.look(c)
	c.want(s.from, kindNumber)
}

func (s *pushing) look(c *checker) {
	s.road.look(c)
	c.want(s.road, kindRoad)
	s.packet.look(c)
	c.want(s.packet, kindPacket)
}

func (s *returning) look(c *checker) {}

func (s *choice) look(c *checker) {
	s.condition.look(c)
	c.want(s.condition, kindTruth)
	c.block(s.yes)
	c.block(s.no)
}

func (s *loop) look(c *checker) {
	c.wantNew(s.name)
	c.set(s.over)
	outside := len(c.names)
	c.add(s.name, s.over.of, false)
	c.block(s.body)
	c.names = c.names[:outside]
}

func (e *number) look(c *checker) {}

func (e *truth) look(c *checker) {}

func (e *register) look(c *checker) {}

func (e *use) look(c *checker) {
	e.kind = c.find(e.name.text).kind
	if e.kind == kindNone {
		c.fail(api.ErrName, e.name.at)
	}
}

func (e *isNone) look(c *checker) {
	e.of.look(c)
	if e.of.sort() != kindRoad {
		c.want(e.of, kindPacket)
	}
}

func (e *oneSided) look(c *checker) {
	e.of.look(c)
	c.want(e.of, e.kind) // both signs give the type that they take
}

func (e *twoSided) look(c *checker) {
	e.left.look(c)
	side, _ := signKinds(e.sign)
	if side == kindNone {
		side = equalSide(e.left)
	}
	c.want(e.left, side)
	e.right.look(c)
	c.want(e.right, side)
}

// equalSide tells of which type the sides of == and != must be: of the left
// one's, if there are signs for it.
func equalSide(left expr) kind {
	if left.sort() == kindTruth {
		return kindTruth
	}
	return kindNumber
}

func (e *property) look(c *checker) {
	e.of.look(c)
	if e.owner == kindNone {
		c.fail(api.ErrName, e.name.at)
	}
	c.want(e.of, e.owner)
}

func (e *onRoad) look(c *checker) {
	e.packet.look(c)
	c.want(e.packet, kindPacket)
	e.road.look(c)
	c.want(e.road, kindRoad)
}

func (e *asking) look(c *checker) { c.set(e.over) }

func (e *measuring) look(c *checker) {
	c.set(e.over)
	want := kindNumber
	if e.what == "any" {
		want = kindTruth
	}
	c.bracket(e.with, e.over.of, want)
}
