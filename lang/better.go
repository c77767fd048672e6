package lang

import "helm/op"

// folded makes statements shorter ahead of their code: what is known without a
// view and registers is worked out, and what does nothing, or is never done, is
// left away.
func folded(list []statement) []statement {
	var kept []statement
	for _, s := range list {
		s.fold()
		if s.idle() {
			continue
		}
		kept = append(kept, s)
		if s.ends() {
			break
		}
	}
	return kept
}

func lastEnds(list []statement) bool {
	return len(list) > 0 && list[len(list)-1].ends()
}

func (s *making) fold() { s.from = s.from.fold() }

func (s *setting) fold() { s.from = s.from.fold() }

func (s *storing) fold() { s.from = s.from.fold() }

func (s *pushing) fold() {
	s.road = s.road.fold()
	s.packet = s.packet.fold()
}

func (s *returning) fold() {}

func (s *returning) ends() bool { return true }

func (s *choice) fold() {
	s.condition = s.condition.fold()
	s.yes, s.no = folded(s.yes), folded(s.no)
	is, isKnown := worth(s.condition)
	if !isKnown {
		return
	}
	s.isSure = true
	if is == 0 {
		s.yes = s.no
	}
	s.no = nil
}

func (s *choice) idle() bool { return len(s.yes) == 0 && len(s.no) == 0 }

func (s *choice) ends() bool { return lastEnds(s.yes) && (s.isSure || lastEnds(s.no)) }

func (s *loop) fold() {
	s.over.fold()
	s.body = folded(s.body)
}

func (s *loop) idle() bool { return len(s.body) == 0 }

func (s *set) fold() {
	var kept []bracket
	for _, filter := range s.filters {
		filter.body = filter.body.fold()
		if !isTruth(filter.body, true) {
			kept = append(kept, filter)
		}
	}
	s.filters = kept
}

// worth tells the number of a literal; a truth's is 0 or 1.
func worth(e expr) (int, bool) {
	switch e := e.(type) {
	case *number:
		return e.is, true
	case *truth:
		return op.Truth(e.is), true
	}
	return 0, false
}

func isTruth(e expr, want bool) bool {
	t, ok := e.(*truth)
	return ok && t.is == want
}

// literal makes one of a value's type.
func literal(of value, is int) expr {
	if of.kind == kindTruth {
		return &truth{value: of, is: is != 0}
	}
	return &number{value: of, is: is}
}

func (e *number) fold() expr { return e }

func (e *truth) fold() expr { return e }

func (e *register) fold() expr { return e }

func (e *use) fold() expr { return e }

func (e *isNone) fold() expr {
	e.of = e.of.fold()
	return e
}

func (e *oneSided) fold() expr {
	e.of = e.of.fold()
	switch of := e.of.(type) {
	case *number:
		return literal(e.value, -of.is)
	case *truth:
		return literal(e.value, op.Truth(!of.is))
	case *oneSided:
		return of.of // both signs are their own opposites
	}
	return e
}

func (e *twoSided) fold() expr {
	e.left, e.right = e.left.fold(), e.right.fold()
	o, first, second := e.work()
	a, isKnown := worth(first)
	b, isOther := worth(second)
	if isKnown && isOther {
		return literal(e.value, op.Outcome(o, a, b))
	}
	if o == op.And || o == op.Or {
		return e.joined(o == op.Or)
	}
	return e
}

// joined tells what is left of a && or || if one side is known: with one truth,
// that of || being true, the other side does not matter; with the other truth
// it is all that matters.
func (e *twoSided) joined(strong bool) expr {
	switch {
	case isTruth(e.left, strong), isTruth(e.right, !strong):
		return e.left
	case isTruth(e.right, strong), isTruth(e.left, !strong):
		return e.right
	}
	return e
}

func (e *property) fold() expr {
	e.of = e.of.fold()
	return e
}

func (e *onRoad) fold() expr {
	e.packet, e.road = e.packet.fold(), e.road.fold()
	return e
}

func (e *asking) fold() expr {
	e.over.fold()
	return e
}

func (e *measuring) fold() expr {
	e.over.fold()
	e.with.body = e.with.body.fold()
	return e
}
