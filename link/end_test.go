package link_test

import (
	"fmt"
	"math/rand/v2"
	"strings"
	"testing"
)

// P12 with helms of all sorts, and a link that had its troubles.
func TestAllIsDeliveredInTheEnd(t *testing.T) {
	t.Parallel()
	codes := byHand()
	for _, src := range helms {
		codes = append(codes, compile(t, src))
	}
	random := rand.New(rand.NewPCG(1, 2))
	for i, code := range codes {
		for roads := 1; roads <= 4; roads++ {
			p := newPair(t, code, roads)
			for _, word := range strings.Fields(times(17, "w") + "t3 a0.0 w t9 l0 w w t k0.0 a0.1 l0 w w t20 w a0.0 k0.0 w") {
				p.do(t, word)
			}
			p.settle(t, random)
			if s := p.link.State(); s.Accepted < 16 {
				t.Errorf("the helm %d with %d roads: %s", i, roads, tell(s))
			}
		}
	}
}

// The watchdog alone needs 9 Ticks for each packet: the 8 quiet ones, and ahead
// of them the one behind an ack.
func TestDeliveredByTheWatchdog(t *testing.T) {
	for name, code := range map[string]string{"nothing": lay(), "overflows": lay(overflowing()...)} {
		p := newPair(t, code, 3)
		for range 16 {
			p.do(t, "w")
		}
		p.do(t, "t7")
		for i := range 16 {
			if s := p.link.State(); len(s.Fresh) != 16-i || len(s.Unacked) != 0 || s.Wasted != 0 {
				t.Fatalf("%s: ahead of the packet %d: %s", name, i, tell(s))
			}
			segment := fmt.Sprintf("%d.%d", i%3, i/3)
			p.do(t, "t")
			p.do(t, "a"+segment)
			if s := p.do(t, "k"+segment); s.Delivered != i+1 || s.Acked != i+1 {
				t.Fatalf("%s: behind the packet %d: %s", name, i, tell(s))
			}
			p.do(t, "t8")
		}
	}
}

// A helm that pushes onto a full road wastes all of it, and what the watchdog
// sends arrives nevertheless.
func TestDeliveredThoughAllIsWasted(t *testing.T) {
	p := newPair(t, compile(t, once), 1)
	for _, word := range strings.Fields("w w w w t t7 t8 t8") {
		p.do(t, word)
	}
	if s := p.link.State(); s.Wasted != 2*24 || s.Segments[0] != 5 || s.Roads[0].Out != 5 {
		t.Errorf("%s", tell(s))
	}
	p.settle(t, rand.New(rand.NewPCG(3, 4)))
}
