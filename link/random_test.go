package link_test

import (
	"fmt"
	"math/rand/v2"
	"reflect"
	"strings"
	"testing"

	"helm/api"
	"helm/link"
)

// A pair is a link and a plain one, with which the same is done.
type pair struct {
	link  *link.Link
	plain *plainLink
	told  []string // all that was done
}

func newPair(t *testing.T, code string, roads int) *pair {
	t.Helper()
	l, errno := link.New(code, roads)
	if errno != api.OK {
		t.Fatalf("New(%x, %d) = %d", code, roads, errno)
	}
	return &pair{link: l, plain: newPlainLink(code, roads), told: []string{fmt.Sprintf("%x with %d roads:", code, roads)}}
}

// do does one call with both, and holds them to each other and to what P12 says
// of every state.
func (p *pair) do(t *testing.T, word string) api.State {
	t.Helper()
	p.told = append(p.told, word)
	got, want := call(t, p.link, word), call(t, p.plain, word)
	if got != want {
		t.Fatalf("%s = %d, want %d", p.told, got, want)
	}
	s, plain := p.link.State(), p.plain.State()
	if !reflect.DeepEqual(s, plain) {
		t.Fatalf("%s:\n%s %v, want\n%s %v", p.told, tell(s), s.Regs, tell(plain), plain.Regs)
	}
	p.wantSound(t, s)
	return s
}

func (p *pair) wantSound(t *testing.T, s api.State) {
	t.Helper()
	if s.Delivered > s.Accepted || s.Acked > s.Delivered {
		t.Fatalf("%s: accepted %d, delivered %d, acked %d", p.told, s.Accepted, s.Delivered, s.Acked)
	}
	seen := map[int]int{}
	for _, packet := range append(s.Fresh, s.Unacked...) {
		seen[packet.Seq]++
	}
	for seq := s.Acked; seq < s.Accepted; seq++ {
		if seen[seq] != 1 {
			t.Fatalf("%s: %d is %d times among %s", p.told, seq, seen[seq], tell(s))
		}
	}
	if len(seen) != s.Accepted-s.Acked {
		t.Fatalf("%s: a packet too many: %s", p.told, tell(s))
	}
	for id, r := range s.Roads {
		dogs := 0
		for _, segment := range p.plain.segments {
			if segment.road == id && segment.byTheDog && p.plain.isOutstanding(segment) {
				dogs++
			}
		}
		if r.Cwnd < 1 || r.Cwnd > 8 || r.Out > r.Cwnd+dogs || r.Out < 0 {
			t.Fatalf("%s: the road %+v, with %d of the watchdog", p.told, r, dogs)
		}
	}
}

// number picks one of n, often the last ones; sometimes none of them.
func number(random *rand.Rand, n int) int {
	switch random.IntN(12) {
	case 0:
		return []int{-1, n, n + 1, -1 << 63, 1<<63 - 1, 1 << 32, -n}[random.IntN(7)]
	case 1, 2, 3, 4:
		return max(0, n-1-random.IntN(4))
	}
	return random.IntN(max(1, n))
}

// someCall makes one up that fits how the link is, or does not.
func someCall(random *rand.Rand, letter byte, s api.State) string {
	road := number(random, len(s.Roads))
	segments, acks := 0, 0
	if road >= 0 && road < len(s.Roads) {
		segments, acks = s.Segments[road], s.Acks[road]
	}
	switch letter {
	case 'w':
		return fmt.Sprintf("w%d", number(random, 1002))
	case 't':
		return "t"
	case 'a':
		return fmt.Sprintf("a%d.%d", road, number(random, segments))
	case 'k':
		return fmt.Sprintf("k%d.%d", road, number(random, acks))
	case 'l':
		return fmt.Sprintf("l%d", road)
	}
	return fmt.Sprintf("t%d", random.IntN(12))
}

// someWeights tells which calls are likely, by how many there are of a letter.
func someWeights(random *rand.Rand) string {
	letters := "wtak"
	for _, letter := range "wttaaakkl." {
		letters += strings.Repeat(string(letter), random.IntN(5))
	}
	return letters
}

func (p *pair) play(t *testing.T, random *rand.Rand, letters string, calls int) {
	t.Helper()
	s := p.link.State()
	for range calls {
		s = p.do(t, someCall(random, letters[random.IntN(len(letters))], s))
	}
}

// settle lets each Tick be followed by the arrival of all segments that were
// sent since, and then of all acks, in some order: all is delivered in time.
func (p *pair) settle(t *testing.T, random *rand.Rand) {
	t.Helper()
	s := p.link.State()
	for range 9*(s.Accepted-s.Acked) + 9 {
		was := p.link.State()
		now := p.do(t, "t")
		p.doAll(t, random, "a", was.Segments, now.Segments)
		p.doAll(t, random, "k", was.Acks, p.link.State().Acks)
	}
	if s = p.link.State(); s.Delivered != s.Accepted || s.Acked != s.Accepted || s.Unacked != nil || s.Fresh != nil {
		t.Fatalf("%s: in the end %s", p.told, tell(s))
	}
}

func (p *pair) doAll(t *testing.T, random *rand.Rand, letter string, from, to []int) {
	t.Helper()
	var words []string
	for id := range from {
		for k := from[id]; k < to[id]; k++ {
			words = append(words, fmt.Sprintf("%s%d.%d", letter, id, k))
		}
	}
	random.Shuffle(len(words), func(i, j int) { words[i], words[j] = words[j], words[i] })
	for _, word := range words {
		p.do(t, word)
	}
}

// seen counts what happened, so that it is plain whether scripts tested it.
type seen struct {
	acked, wasted, rescues, notDone, fullAgain, backlog, wide int
}

func (c *seen) count(p *pair) {
	s := p.link.State()
	c.acked += s.Acked
	c.wasted += s.Wasted
	c.rescues += p.plain.rescues
	c.notDone += p.plain.notDone
	if len(s.Again) == 16 {
		c.fullAgain++
	}
	if len(s.Unacked) > 32 {
		c.backlog++
	}
	for _, r := range s.Roads {
		c.wide += r.Cwnd / 8
	}
}

func TestScriptsAtRandom(t *testing.T) {
	t.Parallel()
	var c seen
	for seed := range uint64(800) {
		random := rand.New(rand.NewPCG(seed, 4))
		p := newPair(t, someCode(random), 1+random.IntN(4))
		for range 1 + random.IntN(3) {
			p.play(t, random, someWeights(random), random.IntN(80))
		}
		c.count(p)
		p.settle(t, random)
		c.count(p)
	}
	if c.acked < 1000 || c.wasted < 1000 || c.rescues < 1000 || c.notDone < 100 || c.wide < 50 {
		t.Errorf("the scripts had too little to do: %+v", c)
	}
}

// Where much is lost and little arrives more is unacked than there is room for
// among those that are Again, and than the receiver keeps.
func TestScriptsWithLosses(t *testing.T) {
	t.Parallel()
	var c seen
	for seed := range uint64(40) {
		random := rand.New(rand.NewPCG(seed, 5))
		src := []string{once, forward, robin, "each p in FRESH { push(ROADS.filter(r: r.id == p.seq % ROADS.count).first, p); }"}[seed%4]
		p := newPair(t, compile(t, src), 1+random.IntN(4))
		p.play(t, random, "wwwwwtttttlll", 200)
		c.count(p)
		p.play(t, random, "wwttlaaaaaaaak", 200)
		p.settle(t, random)
	}
	if c.fullAgain < 5 || c.backlog < 5 {
		t.Errorf("the scripts had too little to do: %+v", c)
	}
}
