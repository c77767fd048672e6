package vm_test

import (
	"math/bits"

	"helm/api"
	"helm/op"
)

// An instruction, with what stands in its blocks.
type instruction struct {
	op      op.Op
	numbers []int
	yes, no []instruction
	isSplit bool
}

// A tester runs code that Load took, in the plainest way, with all the fuel that
// there is, and counts its steps.
type tester struct {
	view    api.View
	slots   [op.MaxSlots]int
	actions []api.Action
	steps   int
}

// How a block was left.
const (
	atItsEnd = iota
	bySkip
	byReturn
)

// untangle reads instructions up to an End or an Else, which it reads too.
func untangle(code string, at int) ([]instruction, op.Op, int) {
	var list []instruction
	for {
		one := instruction{op: op.Op(code[at])}
		shape, _ := op.Shape(one.op)
		at++
		for range shape {
			n, size := op.Read(code, at)
			one.numbers = append(one.numbers, n)
			at += size
		}
		switch one.op {
		case op.End, op.Else:
			return list, one.op, at
		case op.If, op.Loop:
			last := op.End
			one.yes, last, at = untangle(code, at)
			if last == op.Else {
				one.isSplit = true
				one.no, _, at = untangle(code, at)
			}
		}
		list = append(list, one)
	}
}

// plainRun runs code up to its end, and tells how many steps it took.
func plainRun(code string, v api.View, regs [8]int) (api.Result, int) {
	list, _, _ := untangle(code, 0)
	m := &tester{view: v}
	copy(m.slots[:], regs[:])
	if m.block(list) != byReturn {
		m.steps++
	}
	if len(m.actions) > api.MaxActions {
		return api.Result{Status: api.Overflow, Regs: regs}, m.steps
	}
	return api.Result{Status: api.Done, Actions: m.actions, Regs: [8]int(m.slots[:8])}, m.steps
}

func (m *tester) block(list []instruction) int {
	for _, one := range list {
		if left := m.one(one); left != atItsEnd {
			return left
		}
	}
	return atItsEnd
}

func (m *tester) one(i instruction) int {
	m.steps++
	switch i.op {
	case op.Return:
		return byReturn
	case op.Skip:
		if m.slots[i.numbers[0]] == 0 {
			return bySkip
		}
	case op.If:
		return m.choice(i)
	case op.Loop:
		return m.loop(i)
	case op.Push:
		m.push(m.slots[i.numbers[0]], m.slots[i.numbers[1]])
	default:
		m.work(i)
	}
	return atItsEnd
}

func (m *tester) choice(i instruction) int {
	if m.slots[i.numbers[0]] == 0 {
		return m.block(i.no)
	}
	left := m.block(i.yes)
	if left == atItsEnd && i.isSplit {
		m.steps++
	}
	return left
}

func (m *tester) loop(i instruction) int {
	list, among := i.numbers[0], m.slots[i.numbers[2]]
	for index := range 32 {
		if among&m.all(list)&(1<<index) == 0 {
			continue
		}
		m.slots[i.numbers[1]] = index
		switch m.block(i.yes) {
		case byReturn:
			return byReturn
		case atItsEnd:
			m.steps++
		}
	}
	return atItsEnd
}

func (m *tester) all(list int) int {
	switch list {
	case op.Roads:
		return 1<<len(m.view.Roads) - 1
	case op.Fresh:
		return 1<<len(m.view.Fresh) - 1
	}
	return (1<<len(m.view.Again) - 1) << 16
}

func (m *tester) road(index int) (api.Road, bool) {
	if index < 0 || index >= len(m.view.Roads) {
		return api.Road{}, false
	}
	return m.view.Roads[index], true
}

func (m *tester) packet(index int) (api.Packet, bool) {
	switch {
	case index >= 0 && index < len(m.view.Fresh):
		return m.view.Fresh[index], true
	case index >= 16 && index < 16+len(m.view.Again):
		return m.view.Again[index-16], true
	}
	return api.Packet{}, false
}

func (m *tester) push(road, packet int) {
	r, isRoad := m.road(road)
	p, isPacket := m.packet(packet)
	if isRoad && isPacket {
		m.actions = append(m.actions, api.Action{Road: r.Id, Seq: p.Seq})
	}
}

// work does an instruction whose first number is the slot that it writes.
func (m *tester) work(i instruction) {
	s, into := &m.slots, i.numbers[0]
	from := append(i.numbers[1:len(i.numbers):len(i.numbers)], 0, 0)
	switch i.op {
	case op.Number:
		s[into] = from[0]
	case op.Copy:
		s[into] = s[from[0]]
	case op.Minus:
		s[into] = -s[from[0]]
	case op.Not:
		s[into] = op.Truth(s[from[0]] == 0)
	case op.All:
		s[into] = m.all(from[0])
	case op.Keep:
		s[into] |= 1 << (uint(s[from[0]]) % 64)
	case op.Count:
		s[into] = bits.OnesCount(uint(s[from[0]]))
	case op.First:
		set := uint(s[from[0]])
		s[into] = op.None
		if set != 0 {
			s[into] = bits.TrailingZeros(set)
		}
	case op.Least, op.Most:
		measure, best := s[i.numbers[3]], s[i.numbers[1]]
		if s[into] == op.None || i.op == op.Least && measure < best || i.op == op.Most && measure > best {
			s[into], s[i.numbers[1]] = s[i.numbers[2]], measure
		}
	case op.IsNone:
		s[into] = op.Truth(s[from[0]] == op.None)
	case op.On:
		r, isRoad := m.road(s[from[1]])
		p, isPacket := m.packet(s[from[0]])
		s[into] = op.Truth(isRoad && isPacket && p.On>>r.Id&1 == 1)
	case op.Id, op.Rtt, op.Cwnd, op.Out, op.Lossy, op.Seq, op.Size:
		s[into] = m.property(i.op, s[from[0]])
	default:
		s[into] = op.Outcome(i.op, s[from[0]], s[from[1]])
	}
}

func (m *tester) property(o op.Op, of int) int {
	r, _ := m.road(of)
	p, _ := m.packet(of)
	switch o {
	case op.Id:
		return r.Id
	case op.Rtt:
		return r.Rtt
	case op.Cwnd:
		return r.Cwnd
	case op.Out:
		return r.Out
	case op.Lossy:
		return op.Truth(r.Lossy)
	case op.Seq:
		return p.Seq
	}
	return p.Size
}
