package vm

import (
	"math/bits"

	"helm/api"
	"helm/op"
)

// A machine is what one run works with.
type machine struct {
	view    api.View
	slots   []int
	left    [maxLoops]uint // of each Loop that is open: the indexes still to come
	actions []api.Action
}

func newMachine(v api.View, regs [8]int, slots int) *machine {
	m := &machine{view: v, slots: make([]int, slots)}
	copy(m.slots, regs[:])
	return m
}

// isView tells whether a view keeps its bounds.
func isView(v api.View) bool {
	if len(v.Roads) > api.MaxRoads || len(v.Fresh) > api.MaxQueue || len(v.Again) > api.MaxQueue {
		return false
	}
	seen := 0
	for _, r := range v.Roads {
		if r.Id < 0 || r.Id >= api.MaxRoads || hasBit(seen, r.Id) {
			return false
		}
		seen |= 1 << r.Id
	}
	return true
}

func hasBit(of, bit int) bool { return of>>bit&1 == 1 }

func (m *machine) done() api.Result {
	return api.Result{Status: api.Done, Actions: m.actions, Regs: [8]int(m.slots)}
}

// begin takes down what a Loop goes through. What its block does later changes
// nothing of that.
func (m *machine) begin(s *step) {
	list, set := s.numbers[0], m.slots[s.numbers[2]]
	m.left[s.depth] = uint(set & m.all(list))
}

// turn goes on to the next one of a Loop, and tells the step that is next then.
func (m *machine) turn(steps []step, loop int) int {
	s := &steps[loop]
	left := m.left[s.depth]
	if left == 0 {
		return s.to
	}
	m.slots[s.numbers[1]] = bits.TrailingZeros(left)
	m.left[s.depth] = left & (left - 1)
	return loop + 1
}

// all tells the set of all in a list.
func (m *machine) all(list int) int {
	switch list {
	case op.Roads:
		return 1<<len(m.view.Roads) - 1
	case op.Fresh:
		return 1<<len(m.view.Fresh) - 1
	}
	return (1<<len(m.view.Again) - 1) << api.MaxQueue
}

// road finds the road of an index: nil, if it is NONE, as is every one that the
// view does not have.
func (m *machine) road(index int) *api.Road {
	if index < 0 || index >= len(m.view.Roads) {
		return nil
	}
	return &m.view.Roads[index]
}

func (m *machine) packet(index int) *api.Packet {
	list := m.view.Fresh
	if index >= api.MaxQueue {
		list, index = m.view.Again, index-api.MaxQueue
	}
	if index < 0 || index >= len(list) {
		return nil
	}
	return &list[index]
}

// push lays an action down, and tells whether there is room for it.
func (m *machine) push(road, packet int) bool {
	r, p := m.road(road), m.packet(packet)
	if r == nil || p == nil {
		return true
	}
	if len(m.actions) == api.MaxActions {
		return false
	}
	m.actions = append(m.actions, api.Action{Road: r.Id, Seq: p.Seq})
	return true
}

// work does an instruction that leads to the next one.
func (m *machine) work(s *step) {
	n := s.numbers
	switch s.op {
	case op.Number:
		m.slots[n[0]] = n[1]
	case op.All:
		m.slots[n[0]] = m.all(n[1])
	case op.Keep:
		m.slots[n[0]] |= 1 << (uint(m.slots[n[1]]) % bits.UintSize)
	case op.Least:
		m.choose(n, m.slots[n[3]] < m.slots[n[1]])
	case op.Most:
		m.choose(n, m.slots[n[3]] > m.slots[n[1]])
	default:
		m.slots[n[0]] = m.outcome(s.op, m.slots[n[1]], m.slots[n[2]])
	}
}

// choose takes one with its measure for the best one so far, if it is better or
// if there was none.
func (m *machine) choose(n [4]int, isBetter bool) {
	one, measure := m.slots[n[2]], m.slots[n[3]]
	if isBetter || m.slots[n[0]] == op.None {
		m.slots[n[0]], m.slots[n[1]] = one, measure
	}
}

// outcome works out what an instruction writes, from what its slots hold.
func (m *machine) outcome(o op.Op, first, second int) int {
	switch o {
	case op.Copy:
		return first
	case op.Minus:
		return -first
	case op.Not:
		return op.Truth(first == 0)
	case op.Count:
		return bits.OnesCount(uint(first))
	case op.First:
		return lowest(uint(first))
	case op.IsNone:
		return op.Truth(first == op.None)
	case op.Id, op.Rtt, op.Cwnd, op.Out, op.Lossy:
		return ofRoad(o, m.road(first))
	case op.Seq, op.Size:
		return ofPacket(o, m.packet(first))
	case op.On:
		return op.Truth(isOn(m.packet(first), m.road(second)))
	}
	return op.Outcome(o, first, second)
}

// lowest tells the least index in a set.
func lowest(set uint) int {
	if set == 0 {
		return op.None
	}
	return bits.TrailingZeros(set)
}

func ofRoad(o op.Op, r *api.Road) int {
	if r == nil {
		return 0
	}
	switch o {
	case op.Id:
		return r.Id
	case op.Rtt:
		return r.Rtt
	case op.Cwnd:
		return r.Cwnd
	case op.Out:
		return r.Out
	}
	return op.Truth(r.Lossy)
}

func ofPacket(o op.Op, p *api.Packet) int {
	switch {
	case p == nil:
		return 0
	case o == op.Seq:
		return p.Seq
	}
	return p.Size
}

func isOn(p *api.Packet, r *api.Road) bool { return p != nil && r != nil && hasBit(p.On, r.Id) }
