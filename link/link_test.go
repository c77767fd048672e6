package link_test

import (
	"fmt"
	"math"
	"reflect"
	"strings"
	"sync"
	"testing"

	"helm/api"
	"helm/lang"
	"helm/link"
)

const (
	// forward sends what it can over the first road, packets that were lost first.
	forward = "each p in AGAIN { push(ROADS.first, p); } each p in FRESH { push(ROADS.first, p); }"
	// roomy sends all over the first road that has room when the run begins.
	roomy = "each p in AGAIN { push(ROADS.filter(r: r.out < r.cwnd).first, p); } each p in FRESH { push(ROADS.filter(r: r.out < r.cwnd).first, p); }"
	// robin gives each road its turn.
	robin = "each p in AGAIN { push(ROADS.filter(r: r.id == (p.seq + 1) % ROADS.count).first, p); } each p in FRESH { push(ROADS.filter(r: r.id == p.seq % ROADS.count).first, p); }"
	// once sends what is fresh over the first road, and never again.
	once = "each p in FRESH { push(ROADS.first, p); }"
	// idle leaves everything to the watchdog.
	idle = ""
)

func compile(t *testing.T, src string) string {
	t.Helper()
	code, errno, at := lang.Compile(src, true)
	if errno != api.OK {
		t.Fatalf("Compile(%q) = %d, %d", src, errno, at)
	}
	return code
}

func newLink(t *testing.T, src string, roads int) *link.Link {
	t.Helper()
	l, errno := link.New(compile(t, src), roads)
	if l == nil || errno != api.OK {
		t.Fatalf("New of %q with %d roads = %v, %d", src, roads, l, errno)
	}
	return l
}

// call does what a word says, a letter and its numbers: w7 writes 7 bytes, t3
// is three Ticks, a0.2 the arrival of segment 2 of road 0, k0.2 that of its ack
// 2, l0 loses road 0; w and t alone are w1 and t1.
func call(t *testing.T, l caller, word string) api.Errno {
	t.Helper()
	first, second := 1, 0
	if word[1:] != "" {
		if n, err := fmt.Sscanf(word[1:]+".0", "%d.%d", &first, &second); n != 2 {
			t.Fatalf("%q: %v", word, err)
		}
	}
	switch word[0] {
	case 'w':
		return l.Write(first)
	case 't':
		for range first {
			l.Tick()
		}
		return api.OK
	case 'a':
		return l.Arrive(first, second)
	case 'k':
		return l.Ack(first, second)
	case 'l':
		return l.Lose(first)
	}
	t.Fatalf("no such call: %q", word)
	return api.OK
}

// play does what the words say, all of which must be OK.
func play(t *testing.T, l *link.Link, words string) {
	t.Helper()
	for _, word := range strings.Fields(words) {
		if errno := call(t, l, word); errno != api.OK {
			t.Fatalf("%s of %q = %d", word, words, errno)
		}
	}
}

// tell writes a state down: accepted, delivered, acked, wasted; for each road
// Out/Cwnd, and ! if it is Lossy; the packets that are fresh, again and unacked
// with the roads that they went over; for each road its segments,acks.
func tell(s api.State) string {
	text := fmt.Sprint(s.Accepted, s.Delivered, s.Acked, s.Wasted) + " |"
	for _, r := range s.Roads {
		text += fmt.Sprintf(" %d/%d", r.Out, r.Cwnd)
		if r.Lossy {
			text += "!"
		}
	}
	text += " |"
	for _, list := range [][]api.Packet{s.Fresh, s.Again, s.Unacked} {
		var words []string
		for _, p := range list {
			words = append(words, tellPacket(p))
		}
		text += fmt.Sprint(" ", words)
	}
	text += " |"
	for i := range s.Roads {
		text += fmt.Sprintf(" %d,%d", s.Segments[i], s.Acks[i])
	}
	return text
}

func tellPacket(p api.Packet) string {
	text := fmt.Sprint(p.Seq)
	for id := range 64 {
		if p.On>>id&1 == 1 {
			text += strings.Repeat("@", 1-strings.Count(text, "@")) + fmt.Sprint(id)
		}
	}
	return text
}

func wantState(t *testing.T, l *link.Link, want string) {
	t.Helper()
	if got := tell(l.State()); got != want {
		t.Fatalf("the state is\n%s, want\n%s", got, want)
	}
}

// A scene: what is done with a link, and how it is then.
type scene struct{ words, want string }

func wantScenes(t *testing.T, src string, roads int, scenes ...scene) *link.Link {
	t.Helper()
	l := newLink(t, src, roads)
	for _, s := range scenes {
		play(t, l, s.words)
		if got := tell(l.State()); got != s.want {
			t.Fatalf("behind %q the state is\n%s, want\n%s", s.words, got, s.want)
		}
	}
	return l
}

// wantErrno holds calls to an error with which nothing changes.
func wantErrno(t *testing.T, l *link.Link, want api.Errno, words ...string) {
	t.Helper()
	was := l.State()
	for _, word := range words {
		if errno := call(t, l, word); errno != want {
			t.Errorf("%s = %d, want %d", word, errno, want)
		}
		if s := l.State(); !reflect.DeepEqual(s, was) {
			t.Fatalf("%s changed %+v to %+v", word, was, s)
		}
	}
}

// times writes words down several times, each with the next number for a #.
func times(n int, words string) string {
	text := ""
	for i := range n {
		text += strings.ReplaceAll(words, "#", fmt.Sprint(i)) + " "
	}
	return text
}

func TestNew(t *testing.T) {
	for roads := 1; roads <= 4; roads++ {
		want := api.State{Segments: make([]int, roads), Acks: make([]int, roads)}
		for id := range roads {
			want.Roads = append(want.Roads, api.Road{Id: id, Rtt: []int{10, 20, 30, 40}[id], Cwnd: 2})
		}
		if got := newLink(t, idle, roads).State(); !reflect.DeepEqual(got, want) {
			t.Errorf("a new link is %+v, want %+v", got, want)
		}
	}
}

func TestNewOfNoRoads(t *testing.T) {
	for _, roads := range []int{0, 5, -1, 6, 8, 1 << 32, 1<<32 + 1, math.MinInt, math.MinInt + 1, math.MaxInt} {
		if l, errno := link.New(compile(t, roomy), roads); l != nil || errno != api.ErrArg {
			t.Errorf("New with %d roads = %v, %d, want ErrArg", roads, l, errno)
		}
	}
}

func TestNewOfNoCode(t *testing.T) {
	good := compile(t, roomy)
	for _, code := range []string{"", "no code", roomy, good + good, good[:len(good)-1], "\xff", strings.Repeat("\x00", api.MaxCode+1)} {
		for _, roads := range []int{1, 4, 0, 5, math.MinInt, math.MaxInt} {
			if l, errno := link.New(code, roads); l != nil || errno != api.ErrCode {
				t.Errorf("New(%.20q, %d) = %v, %d, want ErrCode", code, roads, l, errno)
			}
		}
	}
}

func TestWrite(t *testing.T) {
	l := wantScenes(t, once, 1,
		scene{"w1", "1 0 0 0 | 0/2 | [0] [] [] | 0,0"},
		scene{"w1000 w7", "3 0 0 0 | 0/2 | [0 1 2] [] [] | 0,0"},
	)
	want := []api.Packet{{Seq: 0, Size: 1}, {Seq: 1, Size: 1000}, {Seq: 2, Size: 7}}
	if got := l.State().Fresh; !reflect.DeepEqual(got, want) {
		t.Errorf("fresh: %v, want %v", got, want)
	}
	play(t, l, "t w3")
	wantState(t, l, "4 0 0 1 | 2/2 | [2 3] [] [0@0 1@0] | 2,0")
}

var badSizes = []string{"w0", "w1001", "w-1", "w-1000", "w4294967297", "w9223372036854775807", "w-9223372036854775808", "w-9223372036854775807"}

func TestWriteOfNoSize(t *testing.T) {
	l := newLink(t, idle, 1)
	wantErrno(t, l, api.ErrArg, badSizes...)
	play(t, l, "w")
	wantErrno(t, l, api.ErrArg, badSizes...)
	play(t, l, "w")
	wantState(t, l, "2 0 0 0 | 0/2 | [0 1] [] [] | 0,0")
}

func TestWriteToFullLink(t *testing.T) {
	l := newLink(t, once, 1)
	play(t, l, times(16, "w1000"))
	wantErrno(t, l, api.ErrFull, "w1", "w1000", "w5")
	wantErrno(t, l, api.ErrArg, badSizes...)
	play(t, l, "t w w")
	wantErrno(t, l, api.ErrFull, "w")
	wantState(t, l, "18 0 0 14 | 2/2 | [2 3 4 5 6 7 8 9 10 11 12 13 14 15 16 17] [] [0@0 1@0] | 2,0")
	play(t, l, "a0.0 a0.1 k0.1")
	wantErrno(t, l, api.ErrFull, "w") // an ack makes no room
}

// The order in which they were first sent is not that of their Seqs, and what
// is sent again keeps its place.
func TestStateOfUnacked(t *testing.T) {
	const backwards = "if isnone(AGAIN.first) { push(ROADS.max(r: r.id), FRESH.max(p: p.seq)); } push(ROADS.first, AGAIN.max(p: p.seq));"
	wantScenes(t, backwards, 3,
		scene{"w t w t", "2 0 0 0 | 0/2 0/2 2/2 | [] [] [0@2 1@2] | 0,0 0,0 2,0"},
		scene{"w w w l2", "5 0 0 0 | 0/2 0/2 0/1! | [2 3 4] [0@2 1@2] [0@2 1@2] | 0,0 0,0 2,0"},
		scene{"t", "5 0 0 0 | 1/2 0/2 0/1! | [2 3 4] [0@2] [0@2 1@02] | 1,0 0,0 2,0"},
		scene{"t", "5 0 0 0 | 2/2 0/2 0/1! | [2 3 4] [] [0@02 1@02] | 2,0 0,0 2,0"},
		scene{"t", "5 0 0 0 | 2/2 0/2 1/1! | [2 3] [] [0@02 1@02 4@2] | 2,0 0,0 3,0"},
		scene{"t", "5 0 0 1 | 2/2 0/2 1/1! | [2 3] [] [0@02 1@02 4@2] | 2,0 0,0 3,0"},
		scene{"a2.0 k2.0 t", "5 1 1 1 | 1/2 0/2 2/2 | [2] [] [1@02 4@2 3@2] | 2,0 0,0 4,1"},
		scene{"a2.1 k2.1 t", "5 2 2 1 | 0/2 0/2 3/3 | [] [] [4@2 3@2 2@2] | 2,0 0,0 5,2"},
		scene{"a2.3 a2.4 a2.2 k2.4", "5 5 5 1 | 0/2 0/2 0/4 | [] [] [] | 2,0 0,0 5,5"},
	)
}

func TestStateInFull(t *testing.T) {
	l := newLink(t, "R0 = R0 + 1; R7 = -R0; "+roomy, 2)
	play(t, l, "w7 w8 w9 t l0 t w5 t a0.0 l1")
	want := api.State{
		Accepted: 4, Delivered: 1, Wasted: 4,
		Roads:    []api.Road{{Rtt: 10, Cwnd: 1, Out: 1, Lossy: true}, {Id: 1, Rtt: 20, Cwnd: 1, Lossy: true}},
		Fresh:    []api.Packet{{Seq: 3, Size: 5}},
		Again:    []api.Packet{{Seq: 1, Size: 8, On: 3}, {Seq: 2, Size: 9, On: 2}},
		Unacked:  []api.Packet{{Seq: 0, Size: 7, On: 1}, {Seq: 1, Size: 8, On: 3}, {Seq: 2, Size: 9, On: 2}},
		Segments: []int{3, 2}, Acks: []int{1, 0},
		Regs: [8]int{3, 7: -3},
	}
	if got := l.State(); !reflect.DeepEqual(got, want) {
		t.Errorf("%+v, want %+v", got, want)
	}
}

// scribble changes all that a state's lists hold, and what lies behind them.
func scribble(s api.State) {
	for _, list := range [][]api.Packet{s.Fresh, s.Again, s.Unacked} {
		for i := range list[:cap(list)] {
			list[:cap(list)][i] = api.Packet{Seq: -1, Size: -1, On: -1}
		}
	}
	for i := range s.Roads[:cap(s.Roads)] {
		s.Roads[:cap(s.Roads)][i] = api.Road{Id: -1, Rtt: -1, Cwnd: -1, Out: -1, Lossy: true}
	}
	for _, list := range [][]int{s.Segments, s.Acks} {
		for i := range list[:cap(list)] {
			list[:cap(list)][i] = -1
		}
	}
}

func TestListsOfStateAreTheCallers(t *testing.T) {
	const words = "w7 w8 w9 w w t a0.0 k0.0 t l0 l1 w w t w t2 a1.0 k1.0 a0.1 k0.1 l1 t w"
	quiet, noisy := newLink(t, robin, 2), newLink(t, robin, 2)
	for _, word := range strings.Fields(words) {
		play(t, quiet, word)
		play(t, noisy, word)
		want := quiet.State()
		changed, kept := noisy.State(), noisy.State()
		scribble(changed)
		if got := noisy.State(); !reflect.DeepEqual(got, want) || !reflect.DeepEqual(kept, want) {
			t.Fatalf("behind %s: %+v and %+v, want %+v", word, got, kept, want)
		}
	}
}

// A list of one state that is changed leaves its other lists as they are.
func TestListsOfStateShareNothing(t *testing.T) {
	l := newLink(t, forward, 2)
	play(t, l, "w w w w t l0 w w")
	s, want := l.State(), l.State()
	if len(s.Fresh) == 0 || len(s.Again) == 0 || len(s.Unacked) == 0 {
		t.Fatalf("an empty list: %s", tell(s))
	}
	scribble(api.State{Again: s.Again, Segments: s.Segments})
	s.Again, s.Segments = want.Again, want.Segments
	if !reflect.DeepEqual(s, want) {
		t.Errorf("%+v, want %+v", s, want)
	}
}

func TestStateLastsOverCalls(t *testing.T) {
	l := newLink(t, forward, 2)
	play(t, l, "w w w w t l0 w w")
	s := l.State()
	was := tell(s)
	play(t, l, "t a0.0 k0.0 t l0 t w w t a0.1 k0.1")
	if now := tell(s); now != was {
		t.Errorf("a state became %s, it was %s", now, was)
	}
}

// Links with one code know nothing of one another, whether they are used in
// turns or at once.
func TestLinksKnowNothingOfOneAnother(t *testing.T) {
	const words = "w w w t l0 t a0.0 k0.0 w w t8 a0.1 k0.1 t w l0 t9 a0.2 k0.2"
	code := compile(t, "R0 = R0 + 1; "+roomy)
	alone, _ := link.New(code, 2)
	play(t, alone, words)
	want := alone.State()
	var links [8]*link.Link
	for i := range links {
		links[i], _ = link.New(code, 2)
	}
	for _, word := range strings.Fields(words) {
		play(t, links[0], word)
		play(t, links[1], word)
	}
	var wait sync.WaitGroup
	for _, l := range links[2:] {
		wait.Go(func() {
			for _, word := range strings.Fields(words) {
				call(t, l, word)
			}
		})
	}
	wait.Wait()
	for i, l := range links {
		if got := l.State(); !reflect.DeepEqual(got, want) {
			t.Errorf("link %d: %+v, want %+v", i, got, want)
		}
	}
}
