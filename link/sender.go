package link

import "helm/api"

// act does what a helm asks for, or counts it as wasted.
func (l *Link) act(a api.Action) {
	r, p := l.road(a.Road), l.waiting(a.Seq)
	if r == nil || p == nil || r.Out >= r.Cwnd {
		l.wasted++
		return
	}
	l.send(p, r)
}

// waiting finds the packet of a Seq that a helm may push: nil, if there is none.
func (l *Link) waiting(seq int) *api.Packet {
	if p := l.fresh.find(seq); p != nil {
		return p
	}
	return l.again.find(seq)
}

func (l *Link) send(p *api.Packet, r *road) {
	if l.fresh.find(p.Seq) != nil {
		l.unacked = append(l.unacked, p)
	}
	l.fresh = l.fresh.without(p.Seq)
	l.again = l.again.without(p.Seq)
	r.send(p)
}

// rescue sends the packet that the receiver waits for, or one that it has and
// whose ack is missing: so once it arrives something is acked, whoever steers.
func (l *Link) rescue() {
	p := least(l.unacked, l.fresh)
	if p == nil {
		return
	}
	l.send(p, &l.roads[l.dog.turn])
	l.dog.turn = (l.dog.turn + 1) % len(l.roads)
}

func (l *Link) ackUpTo(n int) {
	l.acked = n
	l.unacked = l.unacked.from(n)
	l.again = l.again.from(n)
	for i := range l.roads {
		l.roads[i].ackUpTo(n)
	}
	l.dog.calm()
}

// queueAgain makes packets Again that were lost. None of them is acked: a packet
// is outstanding no longer once it is.
func (l *Link) queueAgain(lost packets) {
	lost.sort()
	for _, p := range lost {
		if len(l.again) < api.MaxQueue && l.again.find(p.Seq) == nil {
			l.again = append(l.again, p)
		}
	}
}
