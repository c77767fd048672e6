package link_test

import (
	"fmt"
	"testing"

	"helm/api"
)

func wantRegs(t *testing.T, src string, roads int, words string, want [8]int) {
	t.Helper()
	l := newLink(t, src, roads)
	play(t, l, words)
	if got := l.State().Regs; got != want {
		t.Errorf("%q behind %q: the registers are %v, want %v", src, words, got, want)
	}
}

func TestHelmSeesRoads(t *testing.T) {
	const look = "R0 = ROADS.count; R1 = 0; each r in ROADS { R1 = R1 * 10 + r.id; } R2 = 0; each r in ROADS { R2 = R2 * 100 + r.rtt; }" +
		"R3 = 0; each r in ROADS { R3 = R3 * 10 + r.cwnd; } R4 = 0; each r in ROADS { R4 = R4 * 10 + r.out; } R5 = 0; each r in ROADS.filter(r: r.lossy) { R5 = R5 * 10 + r.id + 1; }"
	wantRegs(t, look, 1, "t", [8]int{1, 0, 10, 2})
	wantRegs(t, look, 4, "t", [8]int{4, 123, 10203040, 2222})
	wantRegs(t, look+robin, 4, "w w w w w w w t l1 a2.0 a0.0 k0.0 l3 t", [8]int{4, 123, 10203040, 3121, 1020, 24})
	wantRegs(t, look+robin, 4, "w w w w w w w t", [8]int{4, 123, 10203040, 2222})
}

func TestHelmSeesPackets(t *testing.T) {
	const look = "R0 = FRESH.count; R1 = AGAIN.count; R2 = 0; each p in FRESH { R2 = R2 * 10 + p.seq; } R3 = 0; each p in AGAIN { R3 = R3 * 10 + p.seq; }" +
		"R4 = FRESH.sum(p: p.size); R5 = AGAIN.sum(p: p.size); R6 = AGAIN.filter(p: p.on(ROADS.first)).count; R7 = AGAIN.filter(p: p.on(ROADS.max(r: r.id))).count;"
	wantRegs(t, look, 2, "t", [8]int{})
	wantRegs(t, look, 2, "w5 w7 w t", [8]int{3, 0, 12, 0, 13})
	wantRegs(t, look+once, 2, "w10 w20 w30 w40 t l0 t", [8]int{2, 2, 23, 1, 70, 30, 2})
	wantRegs(t, look+robin, 2, "w10 w20 w30 w40 w50 t l1 l0 t", [8]int{1, 4, 4, 1302, 50, 100, 2, 2})
}

func TestPushes(t *testing.T) {
	for src, want := range map[string]string{
		"push(ROADS.first, FRESH.first);":                                        "5 0 0 0 | 1/2 0/2 | [1 2 3 4] [] [0@0] | 1,0 0,0",
		"push(ROADS.max(r: r.id), FRESH.first);":                                 "5 0 0 0 | 0/2 1/2 | [1 2 3 4] [] [0@1] | 0,0 1,0",
		"push(ROADS.first, FRESH.max(p: p.seq));":                                "5 0 0 0 | 1/2 0/2 | [0 1 2 3] [] [4@0] | 1,0 0,0",
		"each r in ROADS { push(r, FRESH.filter(p: p.seq == 3 - r.id).first); }": "5 0 0 0 | 1/2 1/2 | [0 1 4] [] [3@0 2@1] | 1,0 1,0",
		// one packet more than once
		"push(ROADS.first, FRESH.first); push(ROADS.first, FRESH.first);":       "5 0 0 1 | 1/2 0/2 | [1 2 3 4] [] [0@0] | 1,0 0,0",
		"each r in ROADS { push(r, FRESH.first); push(r, FRESH.first); }":       "5 0 0 3 | 1/2 0/2 | [1 2 3 4] [] [0@0] | 1,0 0,0",
		"each p in FRESH { each r in ROADS { if p.seq == 2 { push(r, p); } } }": "5 0 0 1 | 1/2 0/2 | [0 1 3 4] [] [2@0] | 1,0 0,0",
		// roads that are full, and others
		"each p in FRESH { push(ROADS.first, p); }":                              "5 0 0 3 | 2/2 0/2 | [2 3 4] [] [0@0 1@0] | 2,0 0,0",
		"each p in FRESH { push(ROADS.first, p); push(ROADS.max(r: r.id), p); }": "5 0 0 6 | 2/2 2/2 | [4] [] [0@0 1@0 2@1 3@1] | 2,0 2,0",
		"each p in FRESH { push(ROADS.filter(r: r.id == p.seq % 2).first, p); }": "5 0 0 1 | 2/2 2/2 | [4] [] [0@0 1@1 2@0 3@1] | 2,0 2,0",
		// no action, so nothing that counts
		"push(ROADS.first, AGAIN.first); push(ROADS.filter(r: r.id > 1).first, FRESH.first);": "5 0 0 0 | 0/2 0/2 | [0 1 2 3 4] [] [] | 0,0 0,0",
		"return; push(ROADS.first, FRESH.first);":                                             "5 0 0 0 | 0/2 0/2 | [0 1 2 3 4] [] [] | 0,0 0,0",
		"push(ROADS.first, FRESH.first); return; push(ROADS.first, FRESH.first);":             "5 0 0 0 | 1/2 0/2 | [1 2 3 4] [] [0@0] | 1,0 0,0",
	} {
		wantScenes(t, src, 2, scene{"w w w w w t", want})
	}
}

func TestPushesOfAgain(t *testing.T) {
	twice := "each p in AGAIN { push(ROADS.first, p); push(ROADS.max(r: r.id), p); } " + once
	wantScenes(t, twice, 2,
		scene{"w w w t", "3 0 0 1 | 2/2 0/2 | [2] [] [0@0 1@0] | 2,0 0,0"},
		scene{"l0", "3 0 0 1 | 0/1! 0/2 | [2] [0@0 1@0] [0@0 1@0] | 2,0 0,0"},
		scene{"t", "3 0 0 4 | 1/1! 1/2 | [2] [] [0@0 1@01] | 3,0 1,0"},
	)
	latest := "push(ROADS.first, AGAIN.max(p: p.seq)); " + once
	wantScenes(t, latest, 1,
		scene{"w w t l0", "2 0 0 0 | 0/1! | [] [0@0 1@0] [0@0 1@0] | 2,0"},
		scene{"t", "2 0 0 0 | 1/1! | [] [0@0] [0@0 1@0] | 3,0"},
		scene{"t", "2 0 0 1 | 1/1! | [] [0@0] [0@0 1@0] | 3,0"},
		scene{"a0.0 k0.0 t", "2 1 1 1 | 1/2 | [] [] [1@0] | 3,1"},
	)
}

// With an Out just below the Cwnd there is room, at the Cwnd none, and above it
// (by the watchdog) none either.
func TestRoomOfRoads(t *testing.T) {
	wantScenes(t, once, 1,
		scene{"w t", "1 0 0 0 | 1/2 | [] [] [0@0] | 1,0"},
		scene{"w w t", "3 0 0 1 | 2/2 | [2] [] [0@0 1@0] | 2,0"},
		scene{"t5", "3 0 0 6 | 2/2 | [2] [] [0@0 1@0] | 2,0"},
		scene{"t", "3 0 0 7 | 3/2 | [2] [] [0@0 1@0] | 3,0"},
		scene{"t", "3 0 0 8 | 3/2 | [2] [] [0@0 1@0] | 3,0"},
		scene{"a0.0 k0.0 t", "3 1 1 8 | 2/3 | [] [] [1@0 2@0] | 4,1"},
	)
}

func TestRunsThatAreNotDone(t *testing.T) {
	const pushes = "R0 = R0 + 1; R7 = 7; each p in FRESH { each q in FRESH { push(ROADS.first, p); } }"
	l := newLink(t, pushes, 1)
	play(t, l, times(16, "w")+"t")
	wantState(t, l, "16 0 0 254 | 2/2 | [2 3 4 5 6 7 8 9 10 11 12 13 14 15] [] [0@0 1@0] | 2,0")
	if regs := l.State().Regs; regs != [8]int{1, 7: 7} {
		t.Errorf("a run with 256 actions left the registers %v", regs)
	}
	l = newLink(t, pushes+"push(ROADS.first, FRESH.first);", 1)
	play(t, l, times(16, "w"))
	was := tell(l.State())
	for range 7 {
		play(t, l, "t")
		wantState(t, l, was)
	}
	play(t, l, "t") // the watchdog, and it alone
	wantState(t, l, "16 0 0 0 | 1/2 | [1 2 3 4 5 6 7 8 9 10 11 12 13 14 15] [] [0@0] | 1,0")
	if regs := l.State().Regs; regs != [8]int{} {
		t.Errorf("runs that overflow left the registers %v", regs)
	}
	play(t, l, "t") // 15 packets are fresh now, so it is Done
	wantState(t, l, "16 0 0 225 | 2/2 | [2 3 4 5 6 7 8 9 10 11 12 13 14 15] [] [0@0 1@0] | 2,0")
	if regs := l.State().Regs; regs != [8]int{1, 7: 7} {
		t.Errorf("the first run that was Done left the registers %v", regs)
	}
	play(t, l, "w w t") // and now not
	wantState(t, l, "18 0 0 225 | 2/2 | [2 3 4 5 6 7 8 9 10 11 12 13 14 15 16 17] [] [0@0 1@0] | 2,0")
	if regs := l.State().Regs; regs != [8]int{1, 7: 7} {
		t.Errorf("a run that overflows changed the registers to %v", regs)
	}
}

func TestRegsStay(t *testing.T) {
	wantRegs(t, "R0 = R0 + 1; if R0 % 2 == 0 { return; } R1 = R1 - R0; R7 = R1 * R1;", 1, "t5", [8]int{5, -9, 7: 81})
	wantScenes(t, "R0 = R0 + 1; if R0 % 2 == 0 { return; } push(ROADS.first, FRESH.first);", 1,
		scene{"w w w t", "3 0 0 0 | 1/2 | [1 2] [] [0@0] | 1,0"},
		scene{"t", "3 0 0 0 | 1/2 | [1 2] [] [0@0] | 1,0"},
		scene{"t", "3 0 0 0 | 2/2 | [2] [] [0@0 1@0] | 2,0"},
	)
}

// A run has all the fuel that the code may need.
func TestCostlyRuns(t *testing.T) {
	const costly = "each p in FRESH { each q in FRESH { each r in FRESH { each s in FRESH { R0 = R0 + ROADS.count; } } } }"
	wantRegs(t, costly, 4, times(16, "w")+"t", [8]int{4 * 16 * 16 * 16 * 16})
}

func TestWatchdogsTick(t *testing.T) {
	wantScenes(t, idle, 2,
		scene{"w w t7", "2 0 0 0 | 0/2 0/2 | [0 1] [] [] | 0,0 0,0"},
		scene{"t", "2 0 0 0 | 1/2 0/2 | [1] [] [0@0] | 1,0 0,0"},
		scene{"t", "2 0 0 0 | 1/2 0/2 | [1] [] [0@0] | 1,0 0,0"},
		scene{"t6", "2 0 0 0 | 1/2 0/2 | [1] [] [0@0] | 1,0 0,0"},
		scene{"t", "2 0 0 0 | 1/2 1/2 | [1] [] [0@01] | 1,0 1,0"},
		scene{"t7", "2 0 0 0 | 1/2 1/2 | [1] [] [0@01] | 1,0 1,0"},
		scene{"t", "2 0 0 0 | 2/2 1/2 | [1] [] [0@01] | 2,0 1,0"},
	)
}

// With nothing to send the eighth Tick still is one, and no road loses its turn.
func TestWatchdogWithNothingToSend(t *testing.T) {
	wantScenes(t, idle, 2,
		scene{"t8 w t7", "1 0 0 0 | 0/2 0/2 | [0] [] [] | 0,0 0,0"},
		scene{"t", "1 0 0 0 | 1/2 0/2 | [] [] [0@0] | 1,0 0,0"},
		scene{"a0.0 k0.0 t t8", "1 1 1 0 | 0/3 0/2 | [] [] [] | 1,1 0,0"},
		scene{"w t7", "2 1 1 0 | 0/3 0/2 | [1] [] [] | 1,1 0,0"},
		scene{"t", "2 1 1 0 | 0/3 1/2 | [] [] [1@1] | 1,1 1,0"},
	)
}

func TestWatchdogGoesRound(t *testing.T) {
	wantScenes(t, idle, 4,
		scene{"w t8", "1 0 0 0 | 1/2 0/2 0/2 0/2 | [] [] [0@0] | 1,0 0,0 0,0 0,0"},
		scene{"t8", "1 0 0 0 | 1/2 1/2 0/2 0/2 | [] [] [0@01] | 1,0 1,0 0,0 0,0"},
		scene{"t8", "1 0 0 0 | 1/2 1/2 1/2 0/2 | [] [] [0@012] | 1,0 1,0 1,0 0,0"},
		scene{"t8", "1 0 0 0 | 1/2 1/2 1/2 1/2 | [] [] [0@0123] | 1,0 1,0 1,0 1,0"},
		scene{"t8", "1 0 0 0 | 2/2 1/2 1/2 1/2 | [] [] [0@0123] | 2,0 1,0 1,0 1,0"},
	)
	wantScenes(t, idle, 3, scene{"w t72", "1 0 0 0 | 3/2 3/2 3/2 | [] [] [0@012] | 3,0 3,0 3,0"})
	wantScenes(t, idle, 1, scene{"w w t32", "2 0 0 0 | 4/2 | [1] [] [0@0] | 4,0"})
}

func TestWatchdogSendsTheLeast(t *testing.T) {
	const backwards = "push(ROADS.first, FRESH.max(p: p.seq));"
	// it is fresh, and others with greater Seqs are unacked
	wantScenes(t, backwards, 1,
		scene{"w w w w t7", "4 0 0 5 | 2/2 | [0 1] [] [3@0 2@0] | 2,0"},
		scene{"t", "4 0 0 6 | 3/2 | [1] [] [3@0 2@0 0@0] | 3,0"},
	)
	// it is unacked, behind others with greater Seqs
	wantScenes(t, backwards, 2,
		scene{"w w t7", "2 0 0 0 | 2/2 0/2 | [] [] [1@0 0@0] | 2,0 0,0"},
		scene{"t", "2 0 0 0 | 3/2 0/2 | [] [] [1@0 0@0] | 3,0 0,0"},
		scene{"a0.2", "2 1 0 0 | 3/2 0/2 | [] [] [1@0 0@0] | 3,1 0,0"},
	)
	// it is Again, and no longer then
	wantScenes(t, "if R0 == 0 { push(ROADS.first, FRESH.max(p: p.seq)); } R0 = R0 + FRESH.count / 2;", 3,
		scene{"w t w w t w l0", "4 0 0 0 | 0/1! 0/2 0/2 | [1 3] [0@0 2@0] [0@0 2@0] | 2,0 0,0 0,0"},
		scene{"t6", "4 0 0 0 | 1/1! 0/2 0/2 | [1 3] [2@0] [0@0 2@0] | 3,0 0,0 0,0"},
		scene{"a0.2 k0.0 t9", "4 1 1 0 | 0/2 1/2 0/2 | [3] [2@0] [2@0 1@1] | 3,1 1,0 0,0"},
		scene{"a1.0 k1.0 t9", "4 2 2 0 | 0/2 0/3 1/2 | [3] [] [2@02] | 3,1 1,1 1,0"},
		scene{"t8", "4 2 2 0 | 1/2 0/3 1/2 | [3] [] [2@02] | 4,1 1,1 1,0"},
	)
}

// It sends over full roads too, behind what the helm does in the same Tick.
func TestWatchdogBehindTheHelm(t *testing.T) {
	wantScenes(t, once, 2,
		scene{"w w t7", "2 0 0 0 | 2/2 0/2 | [] [] [0@0 1@0] | 2,0 0,0"},
		scene{"t", "2 0 0 0 | 3/2 0/2 | [] [] [0@0 1@0] | 3,0 0,0"},
		scene{"t8", "2 0 0 0 | 3/2 1/2 | [] [] [0@01 1@0] | 3,0 1,0"},
		scene{"t8", "2 0 0 0 | 4/2 1/2 | [] [] [0@01 1@0] | 4,0 1,0"},
	)
	wantScenes(t, once, 2, scene{"t7 w w w t", "3 0 0 1 | 3/2 0/2 | [2] [] [0@0 1@0] | 3,0 0,0"})
}

// An ack that is new makes the next Tick the one ahead of the first quiet one,
// whenever it comes.
func TestWatchdogIsCalmed(t *testing.T) {
	for quiet := 1; quiet <= 8; quiet++ {
		l := newLink(t, "push(ROADS.first, FRESH.filter(p: p.seq == 0).first);", 2)
		play(t, l, "w w "+times(quiet, "t")+"a0.0 k0.0 t t7")
		if s := l.State(); s.Acked != 1 || len(s.Fresh) != 1 {
			t.Fatalf("%d quiet Ticks, an ack, one more and 7 quiet ones: %s", quiet, tell(s))
		}
		play(t, l, "t")
		if s := l.State(); len(s.Fresh) != 0 || len(s.Unacked) != 1 {
			t.Fatalf("%d quiet Ticks, an ack, one more and 8 quiet ones: %s", quiet, tell(s))
		}
	}
}

func TestWatchdogIsCalmedInTime(t *testing.T) {
	l := newLink(t, once, 1)
	play(t, l, "w t a0.0 k0.0")
	for i := 1; i < 40; i++ {
		play(t, l, fmt.Sprintf("w t%d a0.%d k0.%d", 1+i%8, i, i))
		if s := l.State(); s.Acked != i+1 || s.Segments[0] != i+1 {
			t.Fatalf("behind %d acks: %s", i, tell(s))
		}
	}
	play(t, l, "w t9")
	if s := l.State(); s.Segments[0] != 42 {
		t.Errorf("8 quiet Ticks: %s", tell(s))
	}
}

// What is no new ack does not calm the watchdog: old ones, segments that arrive
// or are lost, packets that are written.
func TestWatchdogIsNotCalmed(t *testing.T) {
	for _, words := range []string{"k0.0", "k0.1", "k0.0 k0.1 k0.0", "a0.1", "l0", "l1", "w", "a0.0 k0.2"} {
		l := newLink(t, once, 2)
		play(t, l, "w w w t a0.0 k0.0 a0.0 t t7 "+words)
		if s := l.State(); s.Segments[1] != 0 || s.Segments[0] != 3 {
			t.Fatalf("%q, 7 quiet Ticks: %s", words, tell(s))
		}
		play(t, l, "t")
		if s := l.State(); s.Segments[0] < 4 {
			t.Errorf("%q, the 8th quiet Tick: %s", words, tell(s))
		}
	}
	for _, word := range []string{"k2.0", "k0.1", "k0.-1", "k-1.0"} {
		l := newLink(t, once, 2)
		play(t, l, "w w w t a0.0 k0.0 t t7")
		if errno := call(t, l, word); errno == api.OK {
			t.Fatalf("%s is OK", word)
		}
		play(t, l, "t")
		wantState(t, l, "3 1 1 1 | 3/3 0/2 | [] [] [1@0 2@0] | 4,1 0,0")
	}
}
