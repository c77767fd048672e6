package link

import "helm/api"

// A road is what a helm sees of it, and what went over it.
type road struct {
	api.Road
	segments    []int   // their Seqs
	acks        []int   // how many packets each says were delivered
	outstanding packets // one for each segment that is
}

func newRoad(id int) road {
	return road{Road: api.Road{Id: id, Rtt: 10 * (id + 1), Cwnd: 2}}
}

func (r *road) send(p *api.Packet) {
	p.On |= 1 << r.Id
	r.segments = append(r.segments, p.Seq)
	r.outstanding = append(r.outstanding, p)
	r.Out++
}

func (r *road) ackUpTo(n int) {
	r.outstanding = r.outstanding.from(n)
	r.Out = len(r.outstanding)
}

func (r *road) grow() {
	r.Cwnd = min(r.Cwnd+1, api.MaxCwnd)
	r.Lossy = false
}

// lose loses the segments that are outstanding, and tells their packets.
func (r *road) lose() packets {
	lost := r.outstanding
	r.outstanding = nil
	r.Out = 0
	r.Cwnd = max(r.Cwnd/2, 1)
	r.Lossy = len(lost) > 0
	return lost
}
