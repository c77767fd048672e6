package lang

import "helm/api"

// A fault is what is wrong with a text, and where; the zero value: nothing.
type fault struct {
	errno api.Errno
	at    int
}

type parser struct {
	src   string
	tok   token // the next one
	depth int   // how many brackets are open
	fault fault
}

// parse reads a text by tokens and grammar.
func parse(src string) ([]statement, fault) {
	if len(src) > api.MaxText {
		return nil, fault{errno: api.ErrText}
	}
	p := &parser{src: src, tok: scan(src, 0)}
	list := p.statements()
	if p.tok.kind != tokenEnd {
		p.fail()
	}
	if p.fault.errno != api.OK {
		return nil, p.fault
	}
	return list, fault{}
}

// fail notes that the next token cannot stand there. It takes that token's
// place by one that can stand nowhere, so that all that is being read ends.
func (p *parser) fail() {
	if p.fault.errno == api.OK {
		p.fault = fault{errno: api.ErrText, at: p.tok.at}
	}
	p.tok = token{kind: tokenBad, at: p.tok.at}
}

func (p *parser) is(text string) bool { return p.tok.text == text }

// next reads a token that the caller has looked at: one that can stand there.
func (p *parser) next() token {
	read := p.tok
	p.tok = scan(p.src, read.at+len(read.text))
	return read
}

func (p *parser) expect(text string) {
	if !p.is(text) {
		p.fail()
		return
	}
	p.next()
}

func (p *parser) open(sign string) {
	if p.depth == api.MaxNest {
		p.fail()
		return
	}
	p.expect(sign)
	p.depth++
}

func (p *parser) close(sign string) {
	p.expect(sign)
	p.depth--
}

func (p *parser) name() word {
	if p.tok.kind != tokenName {
		p.fail()
		return word{}
	}
	read := p.next()
	return word{text: read.text, at: read.at}
}

func (p *parser) statements() []statement {
	var list []statement
	for s := p.statement(); s != nil; s = p.statement() {
		list = append(list, s)
	}
	return list
}

// statement reads a statement, or nothing (nil) where none begins.
func (p *parser) statement() statement {
	switch p.tok.kind {
	case tokenName:
		return p.setting()
	case tokenRegister:
		return p.storing()
	}
	switch p.tok.text {
	case "var":
		return p.making()
	case "push":
		return p.pushing()
	case "return":
		return p.returning()
	case "if":
		return p.choice()
	case "each":
		return p.loop()
	}
	return nil
}

func (p *parser) making() statement {
	at := p.next().at
	name := p.name()
	from := p.given()
	return &making{part: newPart(at, from.price()), name: name, from: from}
}

func (p *parser) setting() statement {
	name := p.name()
	from := p.given()
	return &setting{part: newPart(name.at, from.price()), name: name, from: from}
}

func (p *parser) storing() statement {
	at := p.tok.at
	index := p.register()
	from := p.given()
	return &storing{part: newPart(at, from.price()), register: index, from: from}
}

// given reads what a name or a register is given, with the signs around it.
func (p *parser) given() expr {
	p.expect("=")
	from := p.expr()
	p.expect(";")
	return from
}

func (p *parser) pushing() statement {
	at := p.next().at
	p.open("(")
	road := p.expr()
	p.expect(",")
	packet := p.expr()
	p.close(")")
	p.expect(";")
	return &pushing{part: newPart(at, road.price(), packet.price()), road: road, packet: packet}
}

func (p *parser) returning() statement {
	at := p.next().at
	p.expect(";")
	return &returning{part: newPart(at)}
}

func (p *parser) choice() statement {
	at := p.next().at
	condition := p.expr()
	yes := p.block()
	var no []statement
	if p.is("else") {
		p.next()
		no = p.block()
	}
	is := newPart(at, condition.price(), totalOf(yes), totalOf(no))
	return &choice{part: is, condition: condition, yes: yes, no: no}
}

func (p *parser) loop() statement {
	at := p.next().at
	name := p.name()
	p.expect("in")
	over, asked := p.set()
	if asked {
		p.fail()
	}
	body := p.block()
	is := newPart(at, over.price(), over.round(totalOf(body)))
	return &loop{part: is, name: name, over: over, body: body}
}

func (p *parser) block() []statement {
	p.open("{")
	list := p.statements()
	p.close("}")
	return list
}

// set reads a set with its filters, and tells whether it read a `.` behind
// them that no filter follows.
func (p *parser) set() (*set, bool) {
	s := &set{part: newPart(p.tok.at), base: p.tok.text, of: kindPacket}
	switch p.tok.text {
	case "ROADS":
		s.of = kindRoad
	case "FRESH", "AGAIN":
	default:
		p.fail()
		return s, false
	}
	p.next()
	for p.is(".") {
		p.next()
		if !p.is("filter") {
			return s, true
		}
		p.next()
		filter := p.bracket()
		s.filters = append(s.filters, filter)
		s.cost = total(s.cost, s.round(filter.body.price()))
	}
	return s, false
}

func (p *parser) bracket() bracket {
	p.open("(")
	name := p.name()
	p.expect(":")
	body := p.expr()
	p.close(")")
	return bracket{name: name, body: body}
}
