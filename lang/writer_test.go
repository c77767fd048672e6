package lang_test

import (
	"math/rand/v2"
	"slices"
	"strconv"
	"strings"
	"testing"

	"helm/api"
)

// The types, as the writer of programs knows them.
const (
	ofNumber = iota
	ofTruth
	ofRoad
	ofPacket
)

// The grammar's levels, from the loosest on.
const (
	asOr = iota
	asAnd
	asEqual
	asOrder
	asSum
	asProduct
	asMinus
	asBehind
)

type madeName struct {
	text  string
	is    int
	isVar bool
}

// written is where a part begins, and what it costs.
type written struct {
	at, cost int
}

// A writer writes a program from its beginning on, with a fault here and there
// on purpose. It knows what each part costs, and notes a fault just when one
// who goes through the text once would meet it: so it knows Check's answer.
type writer struct {
	random *rand.Rand
	text   strings.Builder
	last   string // the last token
	names  []madeName
	depth  int
	parts  int
	inSets int // how many sets are being gone through, one in another
	spoil  int // of so many things that could be wrong one is; 0: none
	flat   int // at most so many sets are gone through, one in another; 0: any number
	errno  api.Errno
	at     int
	cost   int
}

func (w *writer) one(n int) bool { return w.random.IntN(n) == 0 }

func (w *writer) wrong() bool { return w.spoil > 0 && w.one(w.spoil) }

func (w *writer) isDeep() bool { return w.flat > 0 && w.inSets >= w.flat }

func (w *writer) pick(words string) string {
	list := strings.Fields(words)
	return list[w.random.IntN(len(list))]
}

// note keeps the first fault.
func (w *writer) note(errno api.Errno, at int) {
	if w.errno == api.OK {
		w.errno, w.at = errno, at
	}
}

func isWordByte(c byte) bool { return c >= 'a' && c <= 'z' || c >= '0' && c <= '9' }

// put writes tokens, with blanks where they must or may be, and tells where
// the first one begins.
func (w *writer) put(tokens ...string) int {
	first := -1
	for _, token := range tokens {
		joins := w.last != "" && isWordByte(w.last[0]) && isWordByte(token[0])
		if joins || w.one(3) {
			w.text.WriteString([]string{" ", "\n", "  "}[w.random.IntN(3)])
		}
		if first < 0 {
			first = w.text.Len()
		}
		w.text.WriteString(token)
		w.last = token
		switch token {
		case "(", "{":
			w.depth++
		case ")", "}":
			w.depth--
		}
	}
	return first
}

func (w *writer) isKnown(name string) bool {
	return slices.ContainsFunc(w.names, func(n madeName) bool { return n.text == name })
}

// freshName finds one that is not known.
func (w *writer) freshName() string {
	name := w.pick("a b c x y p q r s on id size filter count any in2 iff abcdefghijkl z9")
	for i := 0; w.isKnown(name); i++ {
		name = "n" + strconv.Itoa(i)
	}
	return name
}

// newName writes the name of something that is made.
func (w *writer) newName() string {
	if w.wrong() && len(w.names) > 0 {
		name := w.names[w.random.IntN(len(w.names))].text
		w.note(api.ErrName, w.put(name))
		return name
	}
	name := w.freshName()
	w.put(name)
	return name
}

// otherThan finds a type other than is.
func (w *writer) otherThan(is int) int { return (is + 1 + w.random.IntN(3)) % 4 }

// want writes an expr that must be of a type, but may not be.
func (w *writer) want(is, level int) written {
	if !w.wrong() {
		return w.expr(is, level)
	}
	if w.one(2) {
		at := w.put(w.freshName())
		w.note(api.ErrName, at)
		return written{at, 1}
	}
	e := w.expr(w.otherThan(is), level)
	w.note(api.ErrType, e.at)
	return e
}

// expr writes an expr of a type that may stand where the grammar has a level.
func (w *writer) expr(is, level int) written {
	w.parts++
	if w.parts > 150 || w.depth >= 18 {
		return w.simple(is)
	}
	own := asBehind
	switch is {
	case ofNumber:
		own = []int{asSum, asProduct, asMinus, asBehind, asBehind}[w.random.IntN(5)]
	case ofTruth:
		own = []int{asOr, asAnd, asEqual, asOrder, asMinus, asBehind, asBehind}[w.random.IntN(7)]
	}
	switch {
	case own < level || w.one(8):
		at := w.put("(")
		e := w.expr(is, asOr)
		w.put(")")
		return written{at, e.cost}
	case own == asBehind:
		return w.behind(is)
	case own == asMinus:
		at := w.put([]string{"-", "!"}[is])
		e := w.want(is, asMinus)
		return written{at, 1 + e.cost}
	case own == asEqual:
		return w.equal()
	}
	return w.operation(own)
}

func (w *writer) operation(own int) written {
	signs := []string{"||", "&&", "", "< <= > >=", "+ -", "* / %"}[own]
	side, level := ofNumber, own
	if own <= asAnd {
		side = ofTruth
	}
	if own == asOrder {
		level++
	}
	left := w.want(side, level)
	w.put(w.pick(signs))
	right := w.want(side, own+1)
	return written{left.at, 1 + left.cost + right.cost}
}

func (w *writer) equal() written {
	side := w.random.IntN(2)
	if w.wrong() {
		side += 2
	}
	left := w.expr(side, asOrder)
	w.put(w.pick("== !="))
	if side >= ofRoad {
		w.note(api.ErrType, left.at)
	}
	right := w.want(side, asOrder)
	return written{left.at, 1 + left.cost + right.cost}
}

// simple writes an expr without brackets.
func (w *writer) simple(is int) written {
	for _, n := range w.names {
		if n.is == is && w.one(2) {
			return written{w.put(n.text), 1}
		}
	}
	switch is {
	case ofNumber:
		return written{w.put(w.pick("0 7 123456789012345678 R0 R7")), 1}
	case ofTruth:
		return written{w.put(w.pick("true false")), 1}
	case ofRoad:
		return written{w.put("ROADS", ".", "first"), 2}
	}
	return written{w.put(w.pick("FRESH AGAIN"), ".", "first"), 2}
}

func (w *writer) behind(is int) written {
	way := w.random.IntN(4)
	switch {
	case way == 0, way == 3 && w.isDeep():
		return w.simple(is)
	case way == 1 && is <= ofTruth:
		return w.property(is)
	case way == 2 && is == ofNumber:
		s, _ := w.set(ofRoad + w.random.IntN(2))
		w.put(".", "count")
		return written{s.at, 1 + s.cost}
	case way == 2 && is == ofTruth:
		return w.onRoad()
	case way == 3 && is == ofTruth:
		return w.isNone()
	case w.isDeep():
		return w.simple(is)
	}
	return w.measuring(is)
}

func (w *writer) measuring(is int) written {
	over, what, inner := is, "min max", ofNumber
	switch is {
	case ofNumber:
		over, what = ofRoad+w.random.IntN(2), "sum"
	case ofTruth:
		over, what, inner = ofRoad+w.random.IntN(2), "any", ofTruth
	}
	s, n := w.set(over)
	w.put(".", w.pick(what))
	cost := w.bracket(over, inner)
	return written{s.at, 1 + s.cost + n*(1+cost)}
}

func (w *writer) property(is int) written {
	owner, names := ofRoad, "lossy"
	if is == ofNumber {
		owner = ofRoad + w.random.IntN(2)
		names = []string{"id rtt cwnd out", "seq size"}[owner-ofRoad]
	}
	of, isWrong := owner, w.wrong()
	if isWrong {
		of = w.otherThan(owner)
	}
	e := w.expr(of, asBehind)
	w.put(".")
	if w.wrong() {
		w.note(api.ErrName, w.put(w.pick("weight on count first x")))
	} else {
		w.put(w.pick(names))
	}
	if isWrong {
		w.note(api.ErrType, e.at)
	}
	return written{e.at, 1 + e.cost}
}

func (w *writer) onRoad() written {
	of, isWrong := ofPacket, w.wrong()
	if isWrong {
		of = w.otherThan(ofPacket)
	}
	packet := w.expr(of, asBehind)
	if isWrong {
		w.note(api.ErrType, packet.at)
	}
	w.put(".", "on", "(")
	road := w.want(ofRoad, asOr)
	w.put(")")
	return written{packet.at, 1 + packet.cost + road.cost}
}

func (w *writer) isNone() written {
	of, isWrong := ofRoad+w.random.IntN(2), w.wrong()
	if isWrong {
		of -= 2
	}
	at := w.put("isnone", "(")
	e := w.expr(of, asOr)
	if isWrong {
		w.note(api.ErrType, e.at)
	}
	w.put(")")
	return written{at, 1 + e.cost}
}

// set writes a set, and tells how many there are in it at most.
func (w *writer) set(of int) (written, int) {
	name, n := "ROADS", 8
	if of == ofPacket {
		name, n = w.pick("FRESH AGAIN"), 16
	}
	s := written{w.put(name), 1}
	for w.one(3) && w.depth < 18 && !w.isDeep() {
		w.put(".", "filter")
		s.cost += n * (1 + w.bracket(of, ofTruth))
	}
	return s, n
}

func (w *writer) bracket(one, want int) int {
	w.put("(")
	outside := len(w.names)
	w.names = append(w.names, madeName{text: w.newName(), is: one})
	w.put(":")
	w.inSets++
	e := w.want(want, asOr)
	w.inSets--
	w.put(")")
	w.names = w.names[:outside]
	return e.cost
}

func (w *writer) block() int {
	w.put("{")
	outside := len(w.names)
	cost := 0
	for !w.one(3) {
		cost += w.statement()
	}
	w.put("}")
	w.names = w.names[:outside]
	return cost
}

func (w *writer) statement() int {
	way := w.random.IntN(8)
	if w.depth >= 17 || w.parts > 150 || w.isDeep() {
		way = w.random.IntN(5)
	}
	switch way {
	case 0:
		return w.returning()
	case 1:
		return w.making()
	case 2:
		return w.setting()
	case 3:
		return w.storing()
	case 4, 5:
		return w.pushing()
	case 6:
		return w.choice()
	}
	return w.loop()
}

// returning writes a return here and there; with many of them programs do
// nothing.
func (w *writer) returning() int {
	if !w.one(4) {
		return w.storing()
	}
	w.put("return", ";")
	return 1
}

func (w *writer) storing() int {
	w.put(w.pick("R0 R1 R2 R3 R4 R5 R6 R7"), "=")
	e := w.want(ofNumber, asOr)
	w.put(";")
	return 1 + e.cost
}

func (w *writer) pushing() int {
	w.put("push", "(")
	road := w.want(ofRoad, asOr)
	w.put(",")
	packet := w.want(ofPacket, asOr)
	w.put(")", ";")
	return 1 + road.cost + packet.cost
}

func (w *writer) making() int {
	w.put("var")
	name, is := w.newName(), w.random.IntN(4)
	w.put("=")
	e := w.expr(is, asOr)
	w.put(";")
	w.names = append(w.names, madeName{text: name, is: is, isVar: true})
	return 1 + e.cost
}

func (w *writer) setting() int {
	target := madeName{text: w.freshName()}
	isUnknown := w.wrong()
	if len(w.names) > 0 && !isUnknown {
		target = w.names[w.random.IntN(len(w.names))]
	}
	if !target.isVar && !isUnknown && !w.wrong() {
		return w.storing()
	}
	at := w.put(target.text)
	if !target.isVar {
		w.note(api.ErrName, at)
	}
	w.put("=")
	e := w.want(target.is, asOr)
	w.put(";")
	return 1 + e.cost
}

func (w *writer) choice() int {
	w.put("if")
	cost := 1 + w.want(ofTruth, asOr).cost
	cost += w.block()
	if w.one(2) {
		w.put("else")
		cost += w.block()
	}
	return cost
}

func (w *writer) loop() int {
	w.put("each")
	name, of := w.newName(), ofRoad+w.random.IntN(2)
	w.put("in")
	s, n := w.set(of)
	outside := len(w.names)
	w.names = append(w.names, madeName{text: name, is: of})
	w.inSets++
	cost := 1 + s.cost + n*(1+w.block())
	w.inSets--
	w.names = w.names[:outside]
	return cost
}

func (w *writer) program() string {
	for w.cost = w.statement(); !w.one(5) && w.parts < 150; {
		w.cost += w.statement()
	}
	return w.text.String()
}

func TestWrittenPrograms(t *testing.T) {
	t.Parallel()
	random := rand.New(rand.NewPCG(5, 6))
	seen := [5]int{}
	for n := range 30000 {
		w := writer{random: random, spoil: []int{0, 5, 20, 60, 200}[n%5]}
		src := w.program()
		switch {
		case len(src) > 4000:
			w.errno, w.at = api.ErrText, 0
		case w.errno == api.OK && w.cost > 1000000:
			w.errno = api.ErrCost
		}
		if w.errno == api.OK {
			wantCost(t, src, w.cost)
		} else {
			wantFault(t, src, w.errno, w.at)
		}
		if t.Failed() {
			t.Fatalf("%q", src)
		}
		seen[w.errno]++
	}
	for errno, times := range seen {
		if times < 20 && api.Errno(errno) != api.ErrText {
			t.Errorf("the answer %d came up %d times only: the writer does not write what it should", errno, times)
		}
	}
}
