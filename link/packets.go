package link

import (
	"cmp"
	"slices"

	"helm/api"
)

// packets points to them, so that a packet that stands in several lists is one.
type packets []*api.Packet

// find finds the packet of a Seq: nil, if there is none.
func (list packets) find(seq int) *api.Packet {
	for _, p := range list {
		if p.Seq == seq {
			return p
		}
	}
	return nil
}

// without takes the packet of a Seq out of the list.
func (list packets) without(seq int) packets {
	return slices.DeleteFunc(list, func(p *api.Packet) bool { return p.Seq == seq })
}

// from takes all packets with a Seq below n out of the list.
func (list packets) from(n int) packets {
	return slices.DeleteFunc(list, func(p *api.Packet) bool { return p.Seq < n })
}

// sort puts the list in the order of the Seqs.
func (list packets) sort() {
	slices.SortFunc(list, func(p, q *api.Packet) int { return cmp.Compare(p.Seq, q.Seq) })
}

// told copies what a helm sees of the packets.
func (list packets) told() []api.Packet {
	var told []api.Packet
	for _, p := range list {
		told = append(told, *p)
	}
	return told
}

// least finds the packet with the least Seq: nil, if there is none.
func least(lists ...packets) *api.Packet {
	var found *api.Packet
	for _, list := range lists {
		for _, p := range list {
			if found == nil || p.Seq < found.Seq {
				found = p
			}
		}
	}
	return found
}
