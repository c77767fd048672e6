package link

import "helm/api"

// A receiver delivers packets in order, and keeps those that came ahead of it.
type receiver struct {
	delivered int
	kept      [api.MaxAhead]bool // each at the rest of its Seq by MaxAhead
}

// take takes a packet in, and tells how many are delivered then.
func (r *receiver) take(seq int) int {
	if seq >= r.delivered && seq < r.delivered+api.MaxAhead {
		r.kept[seq%api.MaxAhead] = true
	}
	for r.kept[r.delivered%api.MaxAhead] {
		r.kept[r.delivered%api.MaxAhead] = false
		r.delivered++
	}
	return r.delivered
}
