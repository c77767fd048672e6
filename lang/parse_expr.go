package lang

import "strconv"

// The levels of operations with two sides, from the loosest on.
const (
	levelOr = iota
	levelAnd
	levelEqual
	levelOrder
	levelSum
	levelProduct
	levels
)

// level tells the level of a sign; levels, if it has none.
func level(sign string) int {
	switch sign {
	case "||":
		return levelOr
	case "&&":
		return levelAnd
	case "==", "!=":
		return levelEqual
	case "<", "<=", ">", ">=":
		return levelOrder
	case "+", "-":
		return levelSum
	case "*", "/", "%":
		return levelProduct
	}
	return levels
}

func (p *parser) expr() expr { return p.operation(levelOr) }

// operation reads an expr whose outermost signs are of a level or tighter.
func (p *parser) operation(of int) expr {
	if of == levels {
		return p.minus()
	}
	at := p.tok.at
	left := p.operation(of + 1)
	for level(p.tok.text) == of {
		sign := p.next().text
		right := p.operation(of + 1)
		_, outcome := signKinds(sign)
		is := value{newPart(at, left.price(), right.price()), outcome}
		left = &twoSided{value: is, sign: sign, left: left, right: right}
		if of == levelEqual || of == levelOrder {
			break // no second one of the level may follow
		}
	}
	return left
}

func (p *parser) minus() expr {
	at, sign := p.tok.at, p.tok.text
	outcome := kindNumber
	switch sign {
	case "-":
	case "!":
		outcome = kindTruth
	default:
		return p.behind()
	}
	p.next()
	of := p.minus()
	return &oneSided{value: value{newPart(at, of.price()), outcome}, sign: sign, of: of}
}

func (p *parser) behind() expr {
	at := p.tok.at
	of := p.basic()
	for p.is(".") {
		p.next()
		name := p.name()
		if name.text == "on" && p.is("(") {
			of = p.onRoad(at, of)
			continue
		}
		owner, is := propertyKinds(name.text)
		of = &property{value: value{newPart(at, of.price()), is}, owner: owner, of: of, name: name}
	}
	return of
}

func (p *parser) onRoad(at int, packet expr) expr {
	p.open("(")
	road := p.expr()
	p.close(")")
	is := value{newPart(at, packet.price(), road.price()), kindTruth}
	return &onRoad{value: is, packet: packet, road: road}
}

func (p *parser) basic() expr {
	at := p.tok.at
	switch p.tok.kind {
	case tokenNumber:
		return p.number()
	case tokenRegister:
		return &register{value: value{newPart(at), kindNumber}, index: p.register()}
	case tokenName:
		return &use{value: value{newPart(at), kindNone}, name: p.name()}
	}
	switch p.tok.text {
	case "true", "false":
		return &truth{value: value{newPart(at), kindTruth}, is: p.next().text == "true"}
	case "(":
		inner := p.inBrackets()
		inner.widen(at)
		return inner
	case "isnone":
		p.next()
		of := p.inBrackets()
		return &isNone{value: value{newPart(at, of.price()), kindTruth}, of: of}
	case "ROADS", "FRESH", "AGAIN":
		return p.question()
	}
	p.fail()
	return &truth{} // stands in for what is missing: nobody looks at it
}

// number reads a literal. MaxDigits digits fit an int.
func (p *parser) number() expr {
	read := p.next()
	is, _ := strconv.Atoi(read.text)
	return &number{value: value{newPart(read.at), kindNumber}, is: is}
}

func (p *parser) register() int { return int(p.next().text[1] - '0') }

func (p *parser) inBrackets() expr {
	p.open("(")
	inner := p.expr()
	p.close(")")
	return inner
}

func (p *parser) question() expr {
	over, asked := p.set()
	if asked {
		switch p.tok.text {
		case "count":
			return p.asking(over, kindNumber)
		case "first":
			return p.asking(over, over.of)
		case "min", "max":
			return p.measuring(over, over.of)
		case "sum":
			return p.measuring(over, kindNumber)
		case "any":
			return p.measuring(over, kindTruth)
		}
	}
	p.fail()
	return &truth{}
}

func (p *parser) asking(over *set, is kind) expr {
	what := p.next().text
	return &asking{value: value{newPart(over.at, over.price()), is}, what: what, over: over}
}

func (p *parser) measuring(over *set, is kind) expr {
	what := p.next().text
	with := p.bracket()
	cost := newPart(over.at, over.price(), over.round(with.body.price()))
	return &measuring{value: value{cost, is}, what: what, over: over, with: with}
}
