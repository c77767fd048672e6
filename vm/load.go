package vm

import (
	"helm/api"
	"helm/op"
)

const (
	// maxNeed is the most that compiled code may need. Other code needs no more
	// either, so that a run of it is as short.
	maxNeed = 40*api.MaxCost + 40

	// maxLoops is how many loops are open at once at most: with one more, even
	// if they do nothing, the need is above maxNeed.
	maxLoops = 8
)

// A step is an instruction that was looked over: its slots and lists are such
// as there are, and it knows where it leads.
type step struct {
	op      op.Op
	numbers [4]int
	depth   int // of a Loop: how many are open around it

	// Of If, Else and Loop: the step behind what may be passed over. Of Skip
	// and of the End of a Loop: the Loop.
	to int
}

// A block is the code, or what an If or a Loop has opened in it.
type block struct {
	opener int // the step
	other  int // the step of its Else; 0, if it has none
	need   int // how many steps it needs at most, so far; behind an Else: from there on
	before int // how many it needs ahead of its Else
}

// A loader goes through code once, from its beginning on.
type loader struct {
	code   string
	at     int // of the byte that is read next
	steps  []step
	blocks []block // those that are open, the innermost one last
	loops  []int   // the steps of the Loops among them
	slots  int
	need   int
	isBad  bool
}

func newLoader(code string) *loader {
	return &loader{code: code, blocks: []block{{}}, slots: op.Registers}
}

// read reads an instruction, with as many numbers as it has.
func (l *loader) read() (step, bool) {
	if l.at == len(l.code) {
		return step{}, false
	}
	s := step{op: op.Op(l.code[l.at])}
	l.at++
	shape, isOp := op.Shape(s.op)
	for i, letter := range shape {
		n, size := op.Read(l.code, l.at)
		if size == 0 || !l.take(letter, n) {
			return step{}, false
		}
		s.numbers[i] = n
		l.at += size
	}
	return s, isOp
}

// take tells whether a number may stand for a letter of a shape. A slot that may
// is used from then on.
func (l *loader) take(letter rune, n int) bool {
	switch letter {
	case op.Slot:
		if n < 0 || n >= op.MaxSlots {
			return false
		}
		l.slots = max(l.slots, n+1)
	case op.List:
		return n >= 0 && n < op.Lists
	}
	return true
}

func (l *loader) instruction() {
	s, isGood := l.read()
	if !isGood {
		l.isBad = true
		return
	}
	switch s.op {
	case op.If:
		l.open(s)
	case op.Loop:
		l.openLoop(s)
	case op.Else:
		l.divide(s)
	case op.End:
		l.end(s)
	case op.Skip:
		l.skip(s)
	default:
		l.add(s)
	}
}

// add lays a step behind the others; a run comes by it once in its block.
func (l *loader) add(s step) {
	l.steps = append(l.steps, s)
	l.count(1)
}

// count notes that the innermost block needs more steps.
func (l *loader) count(more int) {
	b := l.innermost()
	b.need += more
	if b.need > maxNeed {
		l.isBad = true
	}
}

func (l *loader) innermost() *block { return &l.blocks[len(l.blocks)-1] }

func (l *loader) open(s step) {
	l.add(s)
	l.blocks = append(l.blocks, block{opener: len(l.steps) - 1})
}

func (l *loader) openLoop(s step) {
	s.depth = len(l.loops)
	if s.depth == maxLoops {
		l.isBad = true
		return
	}
	l.open(s)
	l.loops = append(l.loops, len(l.steps)-1)
}

func (l *loader) skip(s step) {
	if len(l.loops) == 0 {
		l.isBad = true
		return
	}
	s.to = l.loops[len(l.loops)-1]
	l.add(s)
}

// divide begins what an If does else. Who comes to the Else has done the other
// part, and passes this one over.
func (l *loader) divide(s step) {
	b := l.innermost()
	if len(l.blocks) == 1 || b.other > 0 || l.steps[b.opener].op != op.If {
		l.isBad = true
		return
	}
	l.add(s)
	b.other = len(l.steps) - 1
	b.before, b.need = b.need, 0
	l.steps[b.opener].to = len(l.steps)
}

func (l *loader) end(s step) {
	b := *l.innermost()
	switch {
	case len(l.blocks) == 1:
		l.endCode()
	case l.steps[b.opener].op == op.Loop:
		l.endLoop(s, b.opener)
	default:
		l.endIf(b)
	}
}

func (l *loader) endCode() {
	l.add(step{op: op.Return})
	l.need = l.innermost().need
	l.blocks = nil
}

func (l *loader) endLoop(s step, opener int) {
	s.to = opener
	l.add(s)
	once := l.innermost().need
	l.blocks = l.blocks[:len(l.blocks)-1]
	l.loops = l.loops[:len(l.loops)-1]
	l.steps[opener].to = len(l.steps)
	l.count(op.ListSize(l.steps[opener].numbers[0]) * once)
}

// endIf lays no step down: from both parts a run goes on behind them.
func (l *loader) endIf(b block) {
	passing := b.opener
	if b.other > 0 {
		passing = b.other
	}
	l.steps[passing].to = len(l.steps)
	l.blocks = l.blocks[:len(l.blocks)-1]
	l.count(max(b.need, b.before))
}
