package lang_test

import (
	"regexp"
	"slices"
	"strconv"

	"helm/api"
)

// A world is what a program is done with, and what comes of it. What a name or
// an expr is: an int, a bool, a *api.Road or a *api.Packet (nil: NONE).
type world struct {
	view    api.View
	regs    [8]int
	names   map[string]any
	actions []api.Action
}

// A doing is a statement; it tells whether the run ends there.
type doing func(w *world) bool

type meaning func(w *world) any

// A teller takes a program that Check let in for what the document says of it,
// without a thought of code.
type teller struct {
	tokens []string
}

var wordForm = regexp.MustCompile(`[a-z][a-z0-9]*|[0-9]+|R[0-7]|[A-Z]+|<=|>=|==|!=|&&|\|\||\S`)

// does tells what a program does with a view and registers.
func does(src string, v api.View, regs [8]int) api.Result {
	r := &teller{tokens: append(wordForm.FindAllString(src, -1), "", "")}
	program := r.statements()
	w := &world{view: v, regs: regs, names: map[string]any{}}
	program(w)
	if len(w.actions) > 256 {
		return api.Result{Status: api.Overflow, Regs: regs}
	}
	return api.Result{Status: api.Done, Actions: w.actions, Regs: w.regs}
}

func (r *teller) next() string {
	token := r.tokens[0]
	r.tokens = r.tokens[1:]
	return token
}

func (r *teller) skip(n int) { r.tokens = r.tokens[n:] }

// passes reads a token, if it is the one that is looked for.
func (r *teller) passes(tokens ...string) string {
	if !slices.Contains(tokens, r.tokens[0]) {
		return ""
	}
	return r.next()
}

func (r *teller) statements() doing {
	var list []doing
	for r.tokens[0] != "" && r.tokens[0] != "}" {
		list = append(list, r.statement())
	}
	return func(w *world) bool {
		for _, do := range list {
			if do(w) {
				return true
			}
		}
		return false
	}
}

func (r *teller) block() doing {
	r.skip(1)
	inside := r.statements()
	r.skip(1)
	return inside
}

func (r *teller) statement() doing {
	switch first := r.next(); first {
	case "return":
		r.skip(1)
		return func(w *world) bool { return true }
	case "push":
		return r.push()
	case "if":
		return r.choice()
	case "each":
		return r.each()
	case "var":
		return r.give(r.next())
	default:
		return r.give(first)
	}
}

func (r *teller) give(name string) doing {
	r.skip(1)
	from := r.expr(0)
	r.skip(1)
	return func(w *world) bool {
		if name[0] == 'R' {
			w.regs[name[1]-'0'] = from(w).(int)
		} else {
			w.names[name] = from(w)
		}
		return false
	}
}

func (r *teller) push() doing {
	r.skip(1)
	road := r.expr(0)
	r.skip(1)
	packet := r.expr(0)
	r.skip(2)
	return func(w *world) bool {
		to, what := road(w).(*api.Road), packet(w).(*api.Packet)
		if to != nil && what != nil {
			w.actions = append(w.actions, api.Action{Road: to.Id, Seq: what.Seq})
		}
		return false
	}
}

func (r *teller) choice() doing {
	condition, yes := r.expr(0), r.block()
	no := func(w *world) bool { return false }
	if r.passes("else") != "" {
		no = r.block()
	}
	return func(w *world) bool {
		if condition(w).(bool) {
			return yes(w)
		}
		return no(w)
	}
}

func (r *teller) each() doing {
	name := r.next()
	r.skip(1)
	over := r.set()
	inside := r.block()
	return func(w *world) bool {
		for _, one := range over(w) {
			w.names[name] = one
			if inside(w) {
				return true
			}
		}
		return false
	}
}

func (r *teller) set() func(w *world) []any {
	base := r.next()
	list := func(w *world) []any { return w.list(base) }
	for r.tokens[0] == "." && r.tokens[1] == "filter" {
		r.skip(2)
		of, name, keeps := list, "", meaning(nil)
		name, keeps = r.bracket()
		list = func(w *world) []any {
			var kept []any
			for _, one := range of(w) {
				w.names[name] = one
				if keeps(w).(bool) {
					kept = append(kept, one)
				}
			}
			return kept
		}
	}
	return list
}

func (w *world) list(base string) []any {
	var list []any
	if base == "ROADS" {
		for i := range w.view.Roads {
			list = append(list, &w.view.Roads[i])
		}
		return list
	}
	packets := w.view.Fresh
	if base == "AGAIN" {
		packets = w.view.Again
	}
	for i := range packets {
		list = append(list, &packets[i])
	}
	return list
}

func (r *teller) bracket() (string, meaning) {
	r.skip(1)
	name := r.next()
	r.skip(1)
	inside := r.expr(0)
	r.skip(1)
	return name, inside
}

var signsOfLevels = [][]string{{"||"}, {"&&"}, {"==", "!="}, {"<", "<=", ">", ">="}, {"+", "-"}, {"*", "/", "%"}}

func (r *teller) expr(level int) meaning {
	if level == len(signsOfLevels) {
		return r.minus()
	}
	left := r.expr(level + 1)
	for sign := r.passes(signsOfLevels[level]...); sign != ""; sign = r.passes(signsOfLevels[level]...) {
		left = operation(sign, left, r.expr(level+1))
	}
	return left
}

func operation(sign string, left, right meaning) meaning {
	return func(w *world) any {
		a, b := left(w), right(w)
		switch sign {
		case "||":
			return a.(bool) || b.(bool)
		case "&&":
			return a.(bool) && b.(bool)
		case "==":
			return a == b
		case "!=":
			return a != b
		}
		return ofNumbers(sign, a.(int), b.(int))
	}
}

func ofNumbers(sign string, a, b int) any {
	switch sign {
	case "<":
		return a < b
	case "<=":
		return a <= b
	case ">":
		return a > b
	case ">=":
		return a >= b
	case "+":
		return a + b
	case "-":
		return a - b
	case "*":
		return a * b
	}
	switch {
	case b == 0:
		return 0
	case sign == "/":
		return a / b
	}
	return a % b
}

func (r *teller) minus() meaning {
	switch r.passes("-", "!") {
	case "-":
		of := r.minus()
		return func(w *world) any { return -of(w).(int) }
	case "!":
		of := r.minus()
		return func(w *world) any { return !of(w).(bool) }
	}
	return r.behind()
}

func (r *teller) behind() meaning {
	of := r.basic()
	for r.passes(".") != "" {
		owner, name := of, r.next()
		if name != "on" {
			of = func(w *world) any { return propertyOf(owner(w), name) }
			continue
		}
		road := r.inBrackets()
		of = func(w *world) any {
			p, r := owner(w).(*api.Packet), road(w).(*api.Road)
			return p != nil && r != nil && p.On&(1<<r.Id) != 0
		}
	}
	return of
}

func propertyOf(one any, name string) any {
	var road api.Road
	var packet api.Packet
	switch one := one.(type) {
	case *api.Road:
		if one != nil {
			road = *one
		}
	case *api.Packet:
		if one != nil {
			packet = *one
		}
	}
	switch name {
	case "id":
		return road.Id
	case "rtt":
		return road.Rtt
	case "cwnd":
		return road.Cwnd
	case "out":
		return road.Out
	case "lossy":
		return road.Lossy
	case "seq":
		return packet.Seq
	}
	return packet.Size
}

func (r *teller) inBrackets() meaning {
	r.skip(1)
	inside := r.expr(0)
	r.skip(1)
	return inside
}

func (r *teller) basic() meaning {
	first := r.tokens[0]
	switch {
	case first == "(":
		return r.inBrackets()
	case first == "true" || first == "false":
		r.skip(1)
		return func(w *world) any { return first == "true" }
	case first == "isnone":
		r.skip(1)
		of := r.inBrackets()
		return func(w *world) any { return of(w) == (*api.Road)(nil) || of(w) == (*api.Packet)(nil) }
	case first == "ROADS" || first == "FRESH" || first == "AGAIN":
		return r.question(first)
	case first[0] == 'R':
		r.skip(1)
		return func(w *world) any { return w.regs[first[1]-'0'] }
	case first[0] >= '0' && first[0] <= '9':
		r.skip(1)
		is, _ := strconv.Atoi(first)
		return func(w *world) any { return is }
	}
	r.skip(1)
	return func(w *world) any { return w.names[first] }
}

func (r *teller) question(base string) meaning {
	over := r.set()
	r.skip(1)
	switch what := r.next(); what {
	case "count":
		return func(w *world) any { return len(over(w)) }
	case "first":
		return func(w *world) any { return append(over(w), none(base))[0] }
	case "sum":
		name, measure := r.bracket()
		return func(w *world) any {
			sum := 0
			for _, m := range measures(w, over, name, measure) {
				sum += m.(int)
			}
			return sum
		}
	case "any":
		name, condition := r.bracket()
		return func(w *world) any { return slices.Contains(measures(w, over, name, condition), any(true)) }
	default:
		name, measure := r.bracket()
		return func(w *world) any {
			best, all := none(base), measures(w, over, name, measure)
			for i, one := range over(w) {
				if !slices.ContainsFunc(all, func(m any) bool { return isBefore(what, m.(int), all[i].(int)) }) {
					best = one
					break
				}
			}
			return best
		}
	}
}

func isBefore(what string, a, b int) bool {
	if what == "min" {
		return a < b
	}
	return a > b
}

func none(base string) any {
	if base == "ROADS" {
		return (*api.Road)(nil)
	}
	return (*api.Packet)(nil)
}

func measures(w *world, over func(w *world) []any, name string, measure meaning) []any {
	var list []any
	for _, one := range over(w) {
		w.names[name] = one
		list = append(list, measure(w))
	}
	return list
}
