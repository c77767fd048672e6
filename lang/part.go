package lang

import "helm/api"

// A kind is the type of an expr.
type kind int

const (
	kindNone kind = iota // of a name that is not known, and of no property
	kindNumber
	kindTruth
	kindRoad
	kindPacket
)

// A part is what every statement and every expr has: each sort of them embeds
// it.
type part struct {
	at   int // where it begins, with its round brackets
	cost int
}

// newPart makes a part that costs 1 and what stands in it.
func newPart(at int, inside ...int) part {
	return part{at: at, cost: total(1, total(inside...))}
}

func (p *part) place() int { return p.at }

func (p *part) price() int { return p.cost }

func (p *part) idle() bool { return false }

func (p *part) ends() bool { return false }

// A value is what every expr has: a part, and a type.
type value struct {
	part
	kind kind
}

func (v *value) sort() kind { return v.kind }

func (v *value) widen(at int) { v.at = at }

// A node is a statement or an expr; place and price are promoted from its part.
type node interface {
	place() int
	price() int
	look(c *checker)
}

// A statement is laid down as code. Where its sort says nothing else, idle and
// ends are promoted from its part.
type statement interface {
	node
	lay(c *coder)
	fold()
	idle() bool // whether it does nothing
	ends() bool // whether nothing behind it in its block is ever done
}

// An expr has a type too; sort and widen are promoted from its value.
type expr interface {
	node
	sort() kind
	widen(at int)
	give(c *coder, into int) int
	fold() expr
}

// A word is a name as it stands in the text. An expr's place may be that of a
// round bracket, so a name has a place of its own.
type word struct {
	text string
	at   int
}

// A bracket has a name for one of a set, and what is worked out for that one.
type bracket struct {
	name word
	body expr
}

type set struct {
	part
	base    string // ROADS, FRESH or AGAIN
	of      kind
	filters []bracket
}

// The statements.
type (
	making struct { // var NAME = expr ;
		part
		name word
		from expr
	}
	setting struct { // NAME = expr ;
		part
		name word
		from expr
	}
	storing struct { // REGISTER = expr ;
		part
		register int
		from     expr
	}
	pushing struct {
		part
		road, packet expr
	}
	returning struct {
		part
	}
	choice struct { // if
		part
		condition expr
		yes, no   []statement
		isSure    bool // that yes is done, whatever the condition
	}
	loop struct { // each
		part
		name word
		over *set
		body []statement
	}
)

// The exprs.
type (
	number struct {
		value
		is int
	}
	truth struct {
		value
		is bool
	}
	register struct {
		value
		index int
	}
	use struct { // of a name
		value
		name word
	}
	isNone struct {
		value
		of expr
	}
	oneSided struct {
		value
		sign string
		of   expr
	}
	twoSided struct {
		value
		sign        string
		left, right expr
	}
	property struct {
		value
		owner kind
		of    expr
		name  word
	}
	onRoad struct { // of a packet: whether it went over a road
		value
		packet, road expr
	}
	asking struct { // what is asked of a set: count, first
		value
		what string
		over *set
	}
	measuring struct { // what is asked of a set with brackets: min, max, sum, any
		value
		what string
		over *set
		with bracket
	}
)

// size is how many there are at most in the set ahead of its filters.
func (s *set) size() int {
	if s.of == kindRoad {
		return api.MaxRoads
	}
	return api.MaxQueue
}

// round is what it costs to do something for each one of the set.
func (s *set) round(cost int) int {
	return total(s.size() * total(1, cost))
}

// total adds costs up. A total above MaxCost is told as MaxCost + 1: that is
// enough to refuse a program, and loops in loops can't make it wrap round.
func total(costs ...int) int {
	sum := 0
	for _, cost := range costs {
		sum = min(sum+cost, api.MaxCost+1)
	}
	return sum
}

func totalOf(list []statement) int {
	sum := 0
	for _, s := range list {
		sum = total(sum, s.price())
	}
	return sum
}

// propertyKinds tells whose property a name is, and of which type.
func propertyKinds(name string) (owner, is kind) {
	switch name {
	case "id", "rtt", "cwnd", "out":
		return kindRoad, kindNumber
	case "lossy":
		return kindRoad, kindTruth
	case "seq", "size":
		return kindPacket, kindNumber
	}
	return kindNone, kindNone
}

// signKinds tells of which type the sides and the outcome of an operation with
// two sides are. The sides of == and != may be of two types: kindNone.
func signKinds(sign string) (side, outcome kind) {
	switch sign {
	case "||", "&&":
		return kindTruth, kindTruth
	case "==", "!=":
		return kindNone, kindTruth
	case "<", "<=", ">", ">=":
		return kindNumber, kindTruth
	}
	return kindNumber, kindNumber
}
