package link_test

import (
	"fmt"
	"math/rand/v2"

	"helm/api"
	"helm/lang"
	"helm/op"
	"helm/vm"
)

// Helms as one would write them, well and badly.
var helms = []string{
	idle, forward, roomy, robin, once,
	"return;",
	"push(ROADS.first, FRESH.first);",
	"each p in FRESH { push(ROADS.filter(r: r.out < r.cwnd).min(s: s.rtt), p); }",
	"R0 = R0 + 1; if R0 % 2 == 0 { return; } push(ROADS.first, AGAIN.first);",
	"push(ROADS.max(r: r.rtt), FRESH.max(p: p.seq)); push(ROADS.filter(r: !r.lossy).first, AGAIN.first);",
	"each p in AGAIN { push(ROADS.filter(r: !p.on(r)).first, p); } each p in FRESH { push(ROADS.max(r: r.cwnd - r.out), p); }",
	"each r in ROADS { each p in FRESH { push(r, p); } each p in AGAIN { push(r, p); } }",
	"each p in FRESH { each r in ROADS { push(r, p); push(r, p); } }",
	"each p in FRESH { each q in FRESH { each r in ROADS { push(r, p); } } }",
}

// A writer writes helms at random. Every name it makes is new.
type writer struct {
	random *rand.Rand
	names  int
}

func (w *writer) pick(texts ...string) string { return texts[w.random.IntN(len(texts))] }

func (w *writer) name() string {
	w.names++
	return fmt.Sprintf("x%d", w.names)
}

func (w *writer) register() string { return fmt.Sprintf("R%d", w.random.IntN(8)) }

// number writes one, of a road or packet or of none.
func (w *writer) number(of string, properties ...string) string {
	switch w.random.IntN(5) {
	case 0:
		return w.pick("0", "1", "2", "7", "100", "FRESH.count", "AGAIN.count", "ROADS.sum(r: r.out)")
	case 1:
		return w.register()
	case 2:
		return "(" + w.number(of, properties...) + w.pick(" + ", " - ", " * ", " / ", " % ") + w.number(of, properties...) + ")"
	}
	if of == "" {
		return w.register()
	}
	return of + "." + w.pick(properties...)
}

func (w *writer) truth(of string, properties ...string) string {
	return w.number(of, properties...) + w.pick(" < ", " <= ", " > ", " == ", " != ") + w.number(of, properties...)
}

// one writes a road or a packet out of a set.
func (w *writer) one(set string, properties ...string) string {
	if w.random.IntN(3) == 0 {
		name := w.name()
		set += ".filter(" + name + ": " + w.truth(name, properties...) + ")"
	}
	name := w.name()
	return set + w.pick(".first", w.pick(".min(", ".max(")+name+": "+w.number(name, properties...)+")")
}

func (w *writer) road() string { return w.one("ROADS", "id", "rtt", "cwnd", "out") }

func (w *writer) packet() string { return w.one(w.pick("FRESH", "AGAIN"), "seq", "size") }

func (w *writer) statement(depth int) string {
	choice := w.random.IntN(8)
	if depth == 0 {
		choice %= 4
	}
	name := w.name()
	switch choice {
	case 0:
		return w.register() + " = " + w.number("") + "; "
	case 1, 2, 3:
		return "push(" + w.road() + ", " + w.packet() + "); "
	case 4:
		return "if " + w.truth("") + " { " + w.statements(depth-1) + w.pick("", "", "return; ") + "} "
	case 5:
		return "each " + name + " in ROADS { push(" + name + ", " + w.packet() + "); " + w.statements(depth-1) + "} "
	}
	return "each " + name + " in " + w.pick("FRESH", "AGAIN") + " { push(" + w.road() + ", " + name + "); " + w.statements(depth-1) + "} "
}

func (w *writer) statements(depth int) string {
	text := ""
	for range w.random.IntN(3) {
		text += w.statement(depth)
	}
	return text
}

// program writes one that is not too long or costly, and compiles it.
func (w *writer) program() string {
	for {
		src := w.statement(3) + w.statements(3)
		if code, errno, _ := lang.Compile(src, w.random.IntN(2) == 0); errno == api.OK {
			return code
		}
	}
}

// lay lays code down by hand: instructions with their numbers, and an end.
func lay(instructions ...[]int) string {
	var code []byte
	for _, numbers := range instructions {
		code = append(code, byte(numbers[0]))
		for _, n := range numbers[1:] {
			code = op.Append(code, n)
		}
	}
	return string(append(code, byte(op.End)))
}

// pushes are of slots that are 0: of the first road, the first fresh packet.
func pushes(n int) [][]int {
	var list [][]int
	for range n {
		list = append(list, []int{int(op.Push), 8, 9})
	}
	return list
}

// overflowing pushes more than there may be, but does nothing where nothing is
// fresh.
func overflowing() [][]int { return pushes(api.MaxActions + 1) }

// Code that nobody compiled.
func byHand() []string {
	push := pushes(1)[0]
	return []string{
		lay(),
		lay(push),
		lay(pushes(20)...),
		lay(pushes(256)...),
		lay(overflowing()...),
		lay([]int{int(op.Number), 8, 3}, push, []int{int(op.Number), 9, 16}, push, push), // the last of four roads; the first one Again
		lay([]int{int(op.Number), 9, 15}, push, []int{int(op.Number), 9, 31}, push),
	}
}

// change changes bytes of code until that is code again.
func change(random *rand.Rand, code string) string {
	for {
		b := []byte(code)
		for range 1 + random.IntN(3) {
			b[random.IntN(len(b))] = byte(random.IntN(int(op.Push) + 1))
		}
		if _, errno := vm.Load(string(b)); errno == api.OK {
			return string(b)
		}
	}
}

// someCode picks a helm of one of all these sorts.
func someCode(random *rand.Rand) string {
	w := writer{random: random}
	switch random.IntN(6) {
	case 0, 1:
		code, _, _ := lang.Compile(w.pick(helms...), random.IntN(2) == 0)
		return code
	case 2:
		return w.pick(byHand()...)
	case 3:
		return change(random, w.program())
	}
	return w.program()
}
