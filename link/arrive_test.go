package link_test

import (
	"fmt"
	"testing"

	"helm/api"
)

// far writes words down with a number that is far too small or far too great.
func far(form string) []string {
	var words []string
	for _, n := range []int{-1 << 63, -1<<63 + 1, -1 << 32, -2, 1 << 31, 1 << 32, 1<<63 - 1} {
		words = append(words, fmt.Sprintf(form, n))
	}
	return words
}

func TestNoSuchRoad(t *testing.T) {
	for roads := 1; roads <= 4; roads++ {
		l := newLink(t, robin, roads)
		play(t, l, "w w w w t a0.0 k0.0 w t")
		for _, id := range []int{-1, roads, roads + 1, 7, 8} {
			wantErrno(t, l, api.ErrArg, fmt.Sprintf("a%d.0", id), fmt.Sprintf("k%d.0", id), fmt.Sprintf("l%d", id))
			wantErrno(t, l, api.ErrArg, far(fmt.Sprintf("a%d.%%d", id))...) // and no such segment
			wantErrno(t, l, api.ErrArg, far(fmt.Sprintf("k%d.%%d", id))...)
		}
		wantErrno(t, l, api.ErrArg, far("a%d.0")...)
		wantErrno(t, l, api.ErrArg, far("k%d.0")...)
		wantErrno(t, l, api.ErrArg, far("l%d")...)
	}
}

func TestNoSuchSegment(t *testing.T) {
	l := newLink(t, robin, 2)
	wantErrno(t, l, api.ErrNone, "a0.0", "a1.0", "a0.-1", "a1.1", "k0.0", "k1.0")
	play(t, l, "w w w t")
	wantState(t, l, "3 0 0 0 | 2/2 1/2 | [] [] [0@0 1@1 2@0] | 2,0 1,0")
	wantErrno(t, l, api.ErrNone, "a0.2", "a0.3", "a0.-1", "a1.1", "a1.2", "a1.-1")
	wantErrno(t, l, api.ErrNone, far("a0.%d")...)
	wantErrno(t, l, api.ErrNone, far("a1.%d")...)
	play(t, l, "a1.0 a0.1 a0.0")
	wantState(t, l, "3 3 0 0 | 2/2 1/2 | [] [] [0@0 1@1 2@0] | 2,2 1,1")
	wantErrno(t, l, api.ErrNone, "a0.2", "a1.1")
}

func TestNoSuchAck(t *testing.T) {
	l := newLink(t, robin, 2)
	play(t, l, "w w w t")
	wantErrno(t, l, api.ErrNone, "k0.0", "k0.1", "k0.-1", "k1.0", "k1.-1")
	play(t, l, "a0.0 a0.0 a1.0")
	wantErrno(t, l, api.ErrNone, "k0.2", "k0.3", "k0.-1", "k1.1", "k1.-1")
	wantErrno(t, l, api.ErrNone, far("k0.%d")...)
	wantErrno(t, l, api.ErrNone, far("k1.%d")...)
	play(t, l, "k0.1")
	wantState(t, l, "3 2 1 0 | 1/3 1/2 | [] [] [1@1 2@0] | 2,2 1,1")
}

func TestArrivals(t *testing.T) {
	// in order
	wantScenes(t, once, 1,
		scene{"w w t a0.0", "2 1 0 0 | 2/2 | [] [] [0@0 1@0] | 2,1"},
		scene{"a0.1", "2 2 0 0 | 2/2 | [] [] [0@0 1@0] | 2,2"},
		scene{"k0.0", "2 2 1 0 | 1/3 | [] [] [1@0] | 2,2"},
		scene{"k0.1", "2 2 2 0 | 0/4 | [] [] [] | 2,2"},
	)
	// out of order, and twice
	wantScenes(t, robin, 2,
		scene{"w w w w t a1.1 a0.1", "4 0 0 0 | 2/2 2/2 | [] [] [0@0 1@1 2@0 3@1] | 2,1 2,1"},
		scene{"a1.1 a1.1", "4 0 0 0 | 2/2 2/2 | [] [] [0@0 1@1 2@0 3@1] | 2,1 2,3"},
		scene{"a0.0", "4 1 0 0 | 2/2 2/2 | [] [] [0@0 1@1 2@0 3@1] | 2,2 2,3"},
		scene{"a0.0", "4 1 0 0 | 2/2 2/2 | [] [] [0@0 1@1 2@0 3@1] | 2,3 2,3"},
		scene{"a1.0", "4 4 0 0 | 2/2 2/2 | [] [] [0@0 1@1 2@0 3@1] | 2,3 2,4"},
		scene{"a0.1 a1.1", "4 4 0 0 | 2/2 2/2 | [] [] [0@0 1@1 2@0 3@1] | 2,4 2,5"},
		scene{"k0.0 k1.0 k1.1 k1.2", "4 4 0 0 | 2/2 2/2 | [] [] [0@0 1@1 2@0 3@1] | 2,4 2,5"},
		scene{"k0.1", "4 4 1 0 | 1/3 2/2 | [] [] [1@1 2@0 3@1] | 2,4 2,5"},
		scene{"k1.3", "4 4 4 0 | 0/3 0/3 | [] [] [] | 2,4 2,5"},
	)
	// not at all, then again
	wantScenes(t, forward, 1,
		scene{"w w t a0.1 k0.0 l0 t", "2 0 0 1 | 1/1! | [] [1@0] [0@0 1@0] | 3,1"},
		scene{"a0.2 k0.1", "2 2 2 1 | 0/2 | [] [] [] | 3,2"},
	)
}

// Segments that were lost, or whose packet is acked, may arrive still.
func TestLateArrivals(t *testing.T) {
	wantScenes(t, forward, 1,
		scene{"w w t l0", "2 0 0 0 | 0/1! | [] [0@0 1@0] [0@0 1@0] | 2,0"},
		scene{"a0.0 a0.1", "2 2 0 0 | 0/1! | [] [0@0 1@0] [0@0 1@0] | 2,2"},
		scene{"k0.1", "2 2 2 0 | 0/2 | [] [] [] | 2,2"},
		scene{"a0.0 a0.1 k0.2 k0.3", "2 2 2 0 | 0/2 | [] [] [] | 2,4"},
		scene{"w t a0.1 a0.2", "3 3 2 0 | 1/2 | [] [] [2@0] | 3,6"},
	)
}

// farAhead sends n packets over one road, each in a Tick of its own, and loses
// them: so none waits for another.
func farAhead(n int) string { return times(n, "w t l0") }

// arrive has packets arrive that were sent so, those from the one Seq to the
// other: ahead of each of them the watchdog has sent one in every 8 Ticks.
func arrive(from, to int) string {
	words := ""
	for seq := from; seq <= to; seq++ {
		words += fmt.Sprintf("a0.%d ", seq+seq/8)
	}
	return words
}

func TestReceiverKeepsWhatIsNotTooFarAhead(t *testing.T) {
	l := newLink(t, once, 1)
	play(t, l, farAhead(70))
	if s := l.State(); len(s.Unacked) != 70 || s.Acked != 0 {
		t.Fatalf("%s", tell(s))
	}
	for _, step := range []struct {
		words string
		want  int
	}{
		{arrive(32, 33) + arrive(69, 69), 0}, // too far ahead
		{arrive(0, 30), 31},
		{arrive(31, 31), 32}, // the one of 32 was not kept
		{arrive(64, 64), 32}, // 32 ahead
		{arrive(63, 63), 32}, // 31 ahead
		{arrive(31, 31) + arrive(0, 0) + arrive(30, 30), 32},
		{arrive(32, 32), 33}, // just what is missing
		{arrive(64, 64), 33}, // now 31 ahead
		{arrive(65, 65), 33},
		{arrive(0, 61), 62},
		{arrive(62, 62), 65}, // and 63 and 64 were kept, 65 not
		{arrive(64, 64) + arrive(1, 1), 65},
		{arrive(66, 69) + arrive(65, 65), 70},
		{arrive(0, 69), 70},
	} {
		play(t, l, step.words)
		if got := l.State().Delivered; got != step.want {
			t.Fatalf("behind %q %d were delivered, want %d", step.words, got, step.want)
		}
	}
}

func TestReceiverKeepsJustBelow32Ahead(t *testing.T) {
	l := newLink(t, once, 1)
	play(t, l, farAhead(33)+arrive(31, 31)+arrive(0, 30))
	if s := l.State(); s.Delivered != 32 {
		t.Errorf("31 ahead is not kept: %s", tell(s))
	}
	l = newLink(t, once, 1)
	play(t, l, farAhead(33)+arrive(32, 32)+arrive(0, 31))
	if s := l.State(); s.Delivered != 32 {
		t.Errorf("32 ahead is kept: %s", tell(s))
	}
	play(t, l, arrive(32, 32))
	if s := l.State(); s.Delivered != 33 || s.Acks[0] != 34 {
		t.Errorf("what is missing: %s", tell(s))
	}
}

// An ack goes back, whether the packet was kept or not, with how many were
// delivered then.
func TestAcksOfWhatIsNotKept(t *testing.T) {
	l := newLink(t, once, 1)
	play(t, l, farAhead(40)+arrive(39, 39)+arrive(1, 1)+arrive(0, 0)+arrive(0, 0)+arrive(39, 39)+arrive(2, 2))
	if s := l.State(); s.Acks[0] != 6 || s.Delivered != 3 {
		t.Fatalf("%s", tell(s))
	}
	for k, want := range []int{0, 0, 2, 2, 2, 3} {
		play(t, l, fmt.Sprintf("k0.%d", k))
		if got := l.State().Acked; got != want {
			t.Errorf("the ack %d: acked %d, want %d", k, got, want)
		}
	}
}

// Acks that are old or equal change nothing, not even the road.
func TestOldAcks(t *testing.T) {
	wantScenes(t, robin, 2,
		scene{"w w w w t a0.0 a1.0 a0.1 a1.1", "4 4 0 0 | 2/2 2/2 | [] [] [0@0 1@1 2@0 3@1] | 2,2 2,2"},
		scene{"k0.1", "4 4 3 0 | 0/3 1/2 | [] [] [3@1] | 2,2 2,2"},
		scene{"k0.1 k0.0 k1.0 k0.1", "4 4 3 0 | 0/3 1/2 | [] [] [3@1] | 2,2 2,2"},
		scene{"w w l1", "6 4 3 0 | 0/3 0/1! | [4 5] [3@1] [3@1] | 2,2 2,2"},
		scene{"k1.0 k0.1 a1.0 a1.1", "6 4 3 0 | 0/3 0/1! | [4 5] [3@1] [3@1] | 2,2 2,4"},
		scene{"k1.2", "6 4 4 0 | 0/3 0/2 | [4 5] [] [] | 2,2 2,4"},
		scene{"k1.3 k1.1", "6 4 4 0 | 0/3 0/2 | [4 5] [] [] | 2,2 2,4"},
	)
}

// The ack that comes first takes with it what others would have told, and the
// road that it came over alone grows and is Lossy no longer.
func TestAckOfManyRoads(t *testing.T) {
	wantScenes(t, robin, 4,
		scene{"w w w w w w w w t l0 l1 l2", "8 0 0 0 | 0/1! 0/1! 0/1! 2/2 | [] [0@0 4@0 1@1 5@1 2@2 6@2] [0@0 1@1 2@2 3@3 4@0 5@1 6@2 7@3] | 2,0 2,0 2,0 2,0"},
		scene{"t", "8 0 0 4 | 0/1! 1/1! 1/1! 2/2 | [] [4@0 5@1 2@2 6@2] [0@01 1@12 2@2 3@3 4@0 5@1 6@2 7@3] | 2,0 3,0 3,0 2,0"},
		scene{"a0.0 a1.0 a2.0 a3.0 k3.0", "8 4 4 4 | 0/1! 0/1! 0/1! 1/3 | [] [4@0 5@1 6@2] [4@0 5@1 6@2 7@3] | 2,1 3,1 3,1 2,1"},
		scene{"k0.0 k1.0 k2.0", "8 4 4 4 | 0/1! 0/1! 0/1! 1/3 | [] [4@0 5@1 6@2] [4@0 5@1 6@2 7@3] | 2,1 3,1 3,1 2,1"},
		scene{"a0.1 k0.1", "8 5 5 4 | 0/2 0/1! 0/1! 1/3 | [] [5@1 6@2] [5@1 6@2 7@3] | 2,2 3,1 3,1 2,1"},
	)
}

func TestAckOfPacketsOverSeveralRoads(t *testing.T) {
	wantScenes(t, idle, 3,
		scene{"w w t40", "2 0 0 0 | 2/2 2/2 1/2 | [1] [] [0@012] | 2,0 2,0 1,0"},
		scene{"l1 t8", "2 0 0 0 | 2/2 0/1! 2/2 | [1] [] [0@012] | 2,0 2,0 2,0"},
		scene{"a2.1 k2.0", "2 1 1 0 | 0/2 0/1! 0/3 | [1] [] [] | 2,0 2,0 2,1"},
	)
}

// Out falls by the segments below n, and those at n and above stay outstanding.
func TestAckLeavesWhatIsNotAcked(t *testing.T) {
	wantScenes(t, "push(ROADS.first, FRESH.max(p: p.seq)); "+once, 1,
		scene{"w w t", "2 0 0 1 | 2/2 | [] [] [1@0 0@0] | 2,0"},
		scene{"a0.1 k0.0", "2 1 1 1 | 1/3 | [] [] [1@0] | 2,1"},
		scene{"w w w t", "5 1 1 3 | 3/3 | [3] [] [1@0 4@0 2@0] | 4,1"},
		scene{"l0", "5 1 1 3 | 0/1! | [3] [1@0 2@0 4@0] [1@0 4@0 2@0] | 4,1"},
		scene{"a0.0 a0.3 k0.2", "5 3 3 3 | 0/2 | [3] [4@0] [4@0] | 4,3"},
	)
}

func TestAckOfAgain(t *testing.T) {
	wantScenes(t, once, 1,
		scene{"w w t l0 w t l0", "3 0 0 0 | 0/1! | [] [0@0 1@0 2@0] [0@0 1@0 2@0] | 3,0"},
		scene{"a0.0 a0.1 k0.1", "3 2 2 0 | 0/2 | [] [2@0] [2@0] | 3,2"},
		scene{"a0.2 k0.2", "3 3 3 0 | 0/3 | [] [] [] | 3,3"},
	)
}

func TestCwndGrowsTo8(t *testing.T) {
	l := newLink(t, once, 2)
	for i := range 10 {
		play(t, l, fmt.Sprintf("w t a0.%d k0.%d", i, i))
		s := l.State()
		if want := min(3+i, 8); s.Roads[0].Cwnd != want || s.Roads[1].Cwnd != 2 {
			t.Fatalf("behind %d acks: %s, want a Cwnd of %d", i+1, tell(s), want)
		}
	}
	play(t, l, times(9, "w")+"t")
	wantState(t, l, "19 10 10 1 | 8/8 0/2 | [18] [] [10@0 11@0 12@0 13@0 14@0 15@0 16@0 17@0] | 18,10 0,0")
}

func TestCwndHalves(t *testing.T) {
	l := newLink(t, once, 1)
	for i := range 5 {
		play(t, l, fmt.Sprintf("w t a0.%d k0.%d", i, i))
	}
	for _, want := range []int{3, 1, 1, 1} { // from 7 on
		play(t, l, "l0")
		if s := l.State(); s.Roads[0].Cwnd != want || s.Roads[0].Lossy {
			t.Fatalf("%s, want a Cwnd of %d", tell(s), want)
		}
	}
	play(t, l, "w w t")
	wantState(t, l, "7 5 5 1 | 1/1 | [6] [] [5@0] | 6,5")
	play(t, l, "a0.5 k0.5")
	wantState(t, l, "7 6 6 1 | 0/2 | [6] [] [] | 6,6")
}

func TestCwndHalvesFrom8(t *testing.T) {
	l := newLink(t, once, 1)
	for i := range 6 {
		play(t, l, fmt.Sprintf("w t a0.%d k0.%d", i, i))
	}
	for _, want := range []int{4, 2, 1, 1} {
		play(t, l, "l0")
		if s := l.State(); s.Roads[0].Cwnd != want {
			t.Fatalf("%s, want a Cwnd of %d", tell(s), want)
		}
	}
}

func TestLoseNothing(t *testing.T) {
	// never sent; then lost once more, which ends that it is Lossy; then acked
	wantScenes(t, once, 2,
		scene{"l0", "0 0 0 0 | 0/1 0/2 | [] [] [] | 0,0 0,0"},
		scene{"w t l0", "1 0 0 0 | 0/1! 0/2 | [] [0@0] [0@0] | 1,0 0,0"},
		scene{"l0", "1 0 0 0 | 0/1 0/2 | [] [0@0] [0@0] | 1,0 0,0"},
		scene{"a0.0 k0.0 w t a0.1 k0.1", "2 2 2 0 | 0/3 0/2 | [] [] [] | 2,2 0,0"},
		scene{"l0", "2 2 2 0 | 0/1 0/2 | [] [] [] | 2,2 0,0"},
		scene{"l1", "2 2 2 0 | 0/1 0/1 | [] [] [] | 2,2 0,0"},
	)
}

// Packets that are acked are lost no longer.
func TestLoseWhatIsAcked(t *testing.T) {
	wantScenes(t, robin, 2,
		scene{"w w w w t a0.0 a1.0 k1.0", "4 2 2 0 | 1/2 1/3 | [] [] [2@0 3@1] | 2,1 2,1"},
		scene{"l0", "4 2 2 0 | 0/1! 1/3 | [] [2@0] [2@0 3@1] | 2,1 2,1"},
		scene{"a0.1 k0.1 l1", "4 3 3 0 | 0/2 0/1! | [] [3@1] [3@1] | 2,2 2,1"},
	)
}

// A packet that is Again already, or that two lost segments carry, is so once;
// it stays where it stands.
func TestLoseWhatIsAgain(t *testing.T) {
	wantScenes(t, idle, 2,
		scene{"w t32", "1 0 0 0 | 2/2 2/2 | [] [] [0@01] | 2,0 2,0"},
		scene{"l1", "1 0 0 0 | 2/2 0/1! | [] [0@01] [0@01] | 2,0 2,0"},
		scene{"l0", "1 0 0 0 | 0/1! 0/1! | [] [0@01] [0@01] | 2,0 2,0"},
	)
	// 0 and 1 went over both roads: 1 by the helm, then 0 by the watchdog
	wantScenes(t, "push(ROADS.max(r: r.id), AGAIN.max(p: p.seq)); "+once, 2,
		scene{"w w t l0", "2 0 0 0 | 0/1! 0/2 | [] [0@0 1@0] [0@0 1@0] | 2,0 0,0"},
		scene{"t w t", "3 0 0 0 | 1/1! 2/2 | [] [] [0@01 1@01 2@0] | 3,0 2,0"},
		scene{"t4", "3 0 0 0 | 1/1! 2/2 | [] [] [0@01 1@01 2@0] | 3,0 2,0"},
		scene{"t", "3 0 0 0 | 2/1! 2/2 | [] [] [0@01 1@01 2@0] | 4,0 2,0"},
		scene{"l0", "3 0 0 0 | 0/1! 2/2 | [] [0@01 2@0] [0@01 1@01 2@0] | 4,0 2,0"},
		scene{"l1", "3 0 0 0 | 0/1! 0/1! | [] [0@01 2@0 1@01] [0@01 1@01 2@0] | 4,0 2,0"},
	)
}

// They are Again in the order of their Seqs, not in that in which they were sent.
func TestLoseInOrder(t *testing.T) {
	wantScenes(t, "push(ROADS.first, FRESH.max(p: p.seq)); push(ROADS.max(r: r.id), FRESH.filter(q: q.seq < FRESH.max(p: p.seq).seq).max(r: r.seq));", 2,
		scene{"w w w w t t", "4 0 0 0 | 2/2 2/2 | [] [] [3@0 2@1 1@0 0@1] | 2,0 2,0"},
		scene{"l0", "4 0 0 0 | 0/1! 2/2 | [] [1@0 3@0] [3@0 2@1 1@0 0@1] | 2,0 2,0"},
		scene{"l1", "4 0 0 0 | 0/1! 0/1! | [] [1@0 3@0 0@1 2@1] [3@0 2@1 1@0 0@1] | 2,0 2,0"},
	)
}

func seqs(list []api.Packet) string {
	text := ""
	for _, p := range list {
		text += fmt.Sprint(p.Seq, " ")
	}
	return text
}

// Of more than there is room for, those with the least Seqs are Again; the
// others are unacked, and Again when they are lost another time.
func TestLoseMoreThanThereIsRoomFor(t *testing.T) {
	l := newLink(t, once, 1)
	for i := range 6 { // so that 8 are lost at once
		play(t, l, fmt.Sprintf("w t a0.%d k0.%d", i, i))
	}
	play(t, l, times(8, "w")+"t l0") // 6 to 13
	play(t, l, times(4, "w")+"t l0") // 14 to 17
	play(t, l, times(2, "w")+"t l0") // 18 and 19
	play(t, l, "w t l0")             // 20
	if s := l.State(); seqs(s.Again) != "6 7 8 9 10 11 12 13 14 15 16 17 18 19 20 " {
		t.Fatalf("%s", tell(s))
	}
	play(t, l, "a0.6 k0.6") // 6 is acked, and so there is a Cwnd of 2, and room for two
	play(t, l, "w w w t")   // 21 and 22
	if s := l.State(); s.Roads[0].Out != 2 || len(s.Again) != 14 {
		t.Fatalf("%s", tell(s))
	}
	play(t, l, "l0 t l0") // and 23
	s := l.State()
	if seqs(s.Again) != "7 8 9 10 11 12 13 14 15 16 17 18 19 20 21 22 " || s.Roads[0].Out != 0 || !s.Roads[0].Lossy {
		t.Fatalf("%s", tell(s))
	}
	if seqs(s.Unacked) != "7 8 9 10 11 12 13 14 15 16 17 18 19 20 21 22 23 " {
		t.Fatalf("%s", tell(s))
	}
	play(t, l, "a0.7 k0.7 w t l0") // 24
	if s := l.State(); seqs(s.Again) != "8 9 10 11 12 13 14 15 16 17 18 19 20 21 22 24 " {
		t.Fatalf("%s", tell(s))
	}
}
