package link_test

import (
	"slices"

	"helm/api"
	"helm/vm"
)

// A caller is a link, or something that does as one.
type caller interface {
	Write(size int) api.Errno
	Tick()
	Arrive(road, k int) api.Errno
	Ack(road, k int) api.Errno
	Lose(road int) api.Errno
	State() api.State
}

// A plainSegment is one of all that were ever sent.
type plainSegment struct {
	road, seq        int
	isLost, byTheDog bool
}

// A plainLink keeps all that ever happened, and works out from it how things
// are each time that it is asked.
type plainLink struct {
	code     *vm.Code
	regs     [8]int
	cwnd     []int
	lossy    []bool
	sizes    []int // of all that were accepted
	segments []plainSegment
	acks     [][]int // of each road
	again    []int   // the Seqs
	kept     map[int]bool

	acked, wasted int
	isAcked       bool // since the last Tick
	quiet         int
	rescues       int
	notDone       int // runs
}

func newPlainLink(code string, roads int) *plainLink {
	c, _ := vm.Load(code)
	l := &plainLink{code: c, kept: map[int]bool{}, acks: make([][]int, roads), lossy: make([]bool, roads)}
	for range roads {
		l.cwnd = append(l.cwnd, 2)
	}
	return l
}

func (l *plainLink) hasRoad(id int) bool { return id >= 0 && id < len(l.cwnd) }

func (l *plainLink) wasSent(seq int) bool {
	return slices.ContainsFunc(l.segments, func(s plainSegment) bool { return s.seq == seq })
}

// over tells the Seqs that were sent over a road.
func (l *plainLink) over(id int) []int {
	var list []int
	for _, s := range l.segments {
		if s.road == id {
			list = append(list, s.seq)
		}
	}
	return list
}

func (l *plainLink) isOutstanding(s plainSegment) bool { return !s.isLost && s.seq >= l.acked }

func (l *plainLink) out(id int) int {
	n := 0
	for _, s := range l.segments {
		if s.road == id && l.isOutstanding(s) {
			n++
		}
	}
	return n
}

func (l *plainLink) delivered() int {
	n := 0
	for l.kept[n] {
		n++
	}
	return n
}

func (l *plainLink) fresh() []int {
	var list []int
	for seq := range l.sizes {
		if !l.wasSent(seq) {
			list = append(list, seq)
		}
	}
	return list
}

func (l *plainLink) unacked() []int {
	var list []int
	for _, s := range l.segments {
		if s.seq >= l.acked && !slices.Contains(list, s.seq) {
			list = append(list, s.seq)
		}
	}
	return list
}

func (l *plainLink) packets(seqs []int) []api.Packet {
	on := make([][4]int, len(l.sizes)) // for each road what its bit is worth, or 0
	for _, s := range l.segments {
		on[s.seq][s.road] = []int{1, 2, 4, 8}[s.road]
	}
	var list []api.Packet
	for _, seq := range seqs {
		bits := on[seq]
		list = append(list, api.Packet{Seq: seq, Size: l.sizes[seq], On: bits[0] + bits[1] + bits[2] + bits[3]})
	}
	return list
}

func (l *plainLink) State() api.State {
	s := api.State{
		Accepted: len(l.sizes), Delivered: l.delivered(), Acked: l.acked, Wasted: l.wasted,
		Fresh: l.packets(l.fresh()), Again: l.packets(l.again), Unacked: l.packets(l.unacked()),
		Regs: l.regs,
	}
	for id := range l.cwnd {
		s.Roads = append(s.Roads, api.Road{Id: id, Rtt: 10 + 10*id, Cwnd: l.cwnd[id], Out: l.out(id), Lossy: l.lossy[id]})
		s.Segments = append(s.Segments, len(l.over(id)))
		s.Acks = append(s.Acks, len(l.acks[id]))
	}
	return s
}

func (l *plainLink) Write(size int) api.Errno {
	switch {
	case size <= 0, size > 1000:
		return api.ErrArg
	case len(l.fresh()) >= 16:
		return api.ErrFull
	}
	l.sizes = append(l.sizes, size)
	return api.OK
}

func (l *plainLink) send(road, seq int, byTheDog bool) {
	l.segments = append(l.segments, plainSegment{road: road, seq: seq, byTheDog: byTheDog})
	l.again = slices.DeleteFunc(l.again, func(other int) bool { return other == seq })
}

func (l *plainLink) Tick() {
	s := l.State()
	r := l.code.Run(api.View{Roads: s.Roads, Fresh: s.Fresh, Again: s.Again}, l.regs, l.code.Need())
	if r.Status == api.Done {
		l.regs = r.Regs
	} else {
		l.notDone++
	}
	for _, a := range r.Actions {
		isWaiting := slices.Contains(l.fresh(), a.Seq) || slices.Contains(l.again, a.Seq)
		if isWaiting && l.hasRoad(a.Road) && l.out(a.Road) < l.cwnd[a.Road] {
			l.send(a.Road, a.Seq, false)
		} else {
			l.wasted++
		}
	}
	l.watch()
}

func (l *plainLink) watch() {
	if l.isAcked {
		l.isAcked, l.quiet = false, 0
		return
	}
	l.quiet++
	if l.quiet%8 != 0 {
		return
	}
	if all := append(l.unacked(), l.fresh()...); len(all) > 0 {
		l.send(l.rescues%len(l.cwnd), slices.Min(all), true)
		l.rescues++
	}
}

func (l *plainLink) Arrive(road, k int) api.Errno {
	if !l.hasRoad(road) {
		return api.ErrArg
	}
	segments := l.over(road)
	if k < 0 || k >= len(segments) {
		return api.ErrNone
	}
	if segments[k] < l.delivered()+32 {
		l.kept[segments[k]] = true
	}
	l.acks[road] = append(l.acks[road], l.delivered())
	return api.OK
}

func (l *plainLink) Ack(road, k int) api.Errno {
	if !l.hasRoad(road) {
		return api.ErrArg
	}
	if k < 0 || k >= len(l.acks[road]) {
		return api.ErrNone
	}
	if n := l.acks[road][k]; n > l.acked {
		l.acked, l.isAcked = n, true
		l.again = slices.DeleteFunc(l.again, func(seq int) bool { return seq < n })
		l.cwnd[road] = min(8, l.cwnd[road]+1)
		l.lossy[road] = false
	}
	return api.OK
}

func (l *plainLink) Lose(road int) api.Errno {
	if !l.hasRoad(road) {
		return api.ErrArg
	}
	l.lossy[road] = l.out(road) > 0
	l.cwnd[road] = []int{0, 1, 1, 1, 2, 2, 3, 3, 4}[l.cwnd[road]]
	var lost []int
	for i, s := range l.segments {
		if s.road == road && l.isOutstanding(s) {
			l.segments[i].isLost = true
			lost = append(lost, s.seq)
		}
	}
	slices.Sort(lost)
	for _, seq := range slices.Compact(lost) {
		if !slices.Contains(l.again, seq) && len(l.again) < 16 {
			l.again = append(l.again, seq)
		}
	}
	return api.OK
}
