package lang_test

import (
	"math"
	"math/rand/v2"
	"reflect"
	"strings"
	"sync"
	"testing"

	"helm/api"
	"helm/lang"
	"helm/vm"
)

var bothWays = []bool{false, true}

// compiled is code with what vm says of it.
type compiled struct {
	code string
	need int
}

func compile(t *testing.T, src string, better bool) compiled {
	t.Helper()
	code, errno, at := lang.Compile(src, better)
	if errno != api.OK || at != 0 {
		t.Fatalf("Compile(%.80q, %t) = %d, %d", src, better, errno, at)
	}
	loaded, errno := vm.Load(code)
	if loaded == nil || errno != api.OK {
		t.Fatalf("Load refuses Compile(%q, %t): %d", src, better, errno)
	}
	return compiled{code, loaded.Need()}
}

// wantCode holds Compile to code that is not too long, that Load takes, and
// that needs no more than a cost allows; with better to code that is no worse.
func wantCode(t *testing.T, src string, cost int) {
	t.Helper()
	plain, better := compile(t, src, false), compile(t, src, true)
	for _, c := range []compiled{plain, better} {
		if c.code == "" || len(c.code) > 100000 || c.need < 0 || c.need > 40*cost+40 {
			t.Errorf("%.80q, which costs %d: %d bytes of code, need %d", src, cost, len(c.code), c.need)
		}
	}
	if len(better.code) > len(plain.code) || better.need > plain.need {
		t.Errorf("%.80q: better %d bytes and need %d, else %d and %d", src, len(better.code), better.need, len(plain.code), plain.need)
	}
}

// fill makes a text of a length from a beginning, many pieces and an end.
func fill(beginning, piece, end string) string {
	return beginning + strings.Repeat(piece, (api.MaxText-len(beginning)-len(end))/len(piece)) + end
}

// manyNames makes up to 432 vars: with them slots have great numbers, and code
// is long.
func manyNames(n int) string {
	var src strings.Builder
	for i := range n {
		src.WriteString("var " + string(rune('j'+i/36)) + string("abcdefghijklmnopqrstuvwxyz0123456789"[i%36]) + "=1;")
	}
	return src.String()
}

func TestMostCodeOfAText(t *testing.T) {
	names := manyNames(60)
	for _, src := range []string{
		fill("R0=", "-", "1;"),
		fill("var x=", "!", "true;"),
		fill("R0=", "1+", "1;"),
		fill("R0=", "999999999999999999+", "1;"),
		fill("R0=", "R1%", "1;"),
		fill("", "R0=1;", ""),
		fill("", "return;", ""),
		fill("", "if true{}", ""),
		fill("", "if true{}else{return;}", ""),
		fill("", "if 1<2{R0=1;}else{R0=2;}", ""),
		fill("", "each p in FRESH{}", ""),
		fill("", "push(ROADS.first,FRESH.first);", ""),
		fill("R0=", "ROADS.count+", "1;"),
		fill("R0=", "ROADS.sum(r:1)+", "1;"),
		fill("var x=", "isnone(ROADS.min(r:1))&&", "true;"),
		fill("var x=", "isnone(FRESH.max(p:p.seq))||", "true;"),
		fill("R0=ROADS", ".filter(r:true)", ".count;"),
		fill("R0=ROADS", ".filter(r:r.lossy)", ".sum(r:r.id);"),
		fill("each r in ROADS", ".filter(r:1<2)", "{}"),
		fill("var x=FRESH.first;var r=ROADS.first;var y=", "x.on(r)&&", "true;"),
		fill(names+"R0=", "-", "1;"),
		fill(names+"R0=", "1+", "1;"),
		fill(names+"R0=", "ROADS.sum(r:1)+", "1;"),
		fill(names+"var x=", "isnone(ROADS.min(r:1))&&", "true;"),
		manyNames(430),
		manyNames(400) + "R0=" + strings.Repeat("1+", 80) + "1;",
	} {
		cost, errno, at := lang.Check(src)
		if errno != api.OK || len(src) < 3900 && cost < 500 {
			t.Errorf("%.80q of %d bytes: %d, %d, %d", src, len(src), cost, errno, at)
			continue
		}
		wantCode(t, src, cost)
	}
}

func TestMostCodeOfANest(t *testing.T) {
	for _, src := range []string{
		"R0 = " + strings.Repeat("(", 20) + "1" + strings.Repeat(")", 20) + ";",
		"R0 = " + strings.Repeat("1 + 2 * (", 20) + "1" + strings.Repeat(")", 20) + ";",
		"var x = " + strings.Repeat("true || false && true == (", 20) + "true" + strings.Repeat(")", 20) + ";",
		strings.Repeat("if 1 < R0 {", 20) + strings.Repeat("}", 20),
		strings.Repeat("if true {", 20) + "return;" + strings.Repeat("} else { R0 = R0 + 1; }", 20),
		"each a in ROADS { each b in ROADS { each c in ROADS { each d in ROADS { each e in ROADS { each f in ROADS { } } } } } }",
		"R0 = ROADS.sum(a: ROADS.sum(b: ROADS.sum(c: ROADS.sum(d: ROADS.sum(e: ROADS.sum(f: 1))))));",
		"each a in ROADS.filter(a: ROADS.any(b: ROADS.any(c: ROADS.any(d: ROADS.any(e: ROADS.any(f: f.lossy)))))) { }",
	} {
		cost, errno, at := lang.Check(src)
		if errno != api.OK {
			t.Errorf("Check(%q) = %d, %d, %d", src, cost, errno, at)
			continue
		}
		wantCode(t, src, cost)
	}
}

func TestBetterIsShorter(t *testing.T) {
	for src, same := range map[string]string{
		"R0 = 1 + 2;":                                            "R0 = 3;",
		"R0 = 2 * 3 - 7 / 2 + 9 % 5;":                            "R0 = 7;",
		"R0 = 7 / 0 + 7 % 0;":                                    "R0 = 0;",
		"R0 = --R1;":                                             "R0 = R1;",
		"R0 = ---R1;":                                            "R0 = -R1;",
		"var x = !!(R0 < 1);":                                    "var x = R0 < 1;",
		"var x = !(1 > 2) == (2 >= 2);":                          "var x = true;",
		"var x = 1 < 2 && R0 < 1;":                               "var x = R0 < 1;",
		"var x = R0 < 1 && 1 < 2;":                               "var x = R0 < 1;",
		"var x = 1 > 2 && R0 < 1;":                               "var x = false;",
		"var x = R0 < 1 && 1 > 2;":                               "var x = false;",
		"var x = 1 > 2 || R0 < 1;":                               "var x = R0 < 1;",
		"var x = R0 < 1 || 1 > 2;":                               "var x = R0 < 1;",
		"var x = 1 < 2 || R0 < 1;":                               "var x = true;",
		"var x = R0 < 1 || 1 < 2;":                               "var x = true;",
		"if 1 < 2 { R0 = 1; } else { R0 = 2; }":                  "R0 = 1;",
		"if 1 > 2 { R0 = 1; } else { R0 = 2; }":                  "R0 = 2;",
		"if R0 < 1 { if true { } }":                              "",
		"each p in FRESH.filter(p: p.size > 1) { }":              "",
		"R0 = 1; return; R0 = 2;":                                "R0 = 1; return;",
		"if true { return; } R0 = 2;":                            "return;",
		"if R0 < 1 { return; } else { return; } R0 = 2; R0 = 3;": "if R0 < 1 { return; } else { return; }",
		"R0 = ROADS.filter(r: 1 < 2).count;":                     "R0 = ROADS.count;",
		"push(ROADS.filter(r: r.id == 2 + 1).first, FRESH.max(p: 2 * 2));":                       "push(ROADS.filter(r: r.id == 3).first, FRESH.max(p: 4));",
		"var x = isnone(ROADS.min(r: 1 + 1)); x = FRESH.first.on(ROADS.max(r: r.id * (3 - 1)));": "var x = isnone(ROADS.min(r: 2)); x = FRESH.first.on(ROADS.max(r: r.id * 2));",
		"if true { } else { R0 = 1; }":                                    "",
		"if false { R0 = 1; }":                                            "",
		"each p in FRESH.filter(p: 1 < 2) { R0 = 1 + 2; }":                "each p in FRESH { R0 = 3; }",
		"R0 = AGAIN.filter(p: true).filter(q: q.size > 1).sum(p: p.seq);": "R0 = AGAIN.filter(q: q.size > 1).sum(p: p.seq);",
		"R0 = ROADS.max(r: -(2 + 1)).rtt;":                                "R0 = ROADS.max(r: -3).rtt;",
	} {
		better, short, plain := compile(t, src, true), compile(t, same, true), compile(t, src, false)
		if better != short {
			t.Errorf("%q and %q are not the same code", src, same)
		}
		if len(better.code) >= len(plain.code) || better.need >= plain.need {
			t.Errorf("%q is not shorter with better", src)
		}
	}
}

// Numbers at the edges, for registers and for what a view has.
func someNumber(random *rand.Rand) int {
	switch random.IntN(8) {
	case 0:
		return []int{math.MinInt, math.MaxInt, -1, 1 << 62}[random.IntN(4)]
	case 1:
		return int(random.Uint64())
	}
	return random.IntN(9) - 2
}

func somePackets(random *rand.Rand) []api.Packet {
	list := make([]api.Packet, min(random.IntN(20), 16))
	for i := range list {
		list[i] = api.Packet{Seq: someNumber(random), Size: someNumber(random), On: random.IntN(256)}
	}
	return list
}

func someView(random *rand.Rand) api.View {
	v := api.View{Fresh: somePackets(random), Again: somePackets(random)}
	for _, id := range random.Perm(8)[:min(random.IntN(11), 8)] {
		v.Roads = append(v.Roads, api.Road{Id: id, Rtt: someNumber(random), Cwnd: someNumber(random), Out: someNumber(random), Lossy: random.IntN(2) == 0})
	}
	return v
}

func someRegisters(random *rand.Rand) [8]int {
	var regs [8]int
	for i := range regs {
		regs[i] = someNumber(random)
	}
	return regs
}

// wantMeaning holds runs of code to what its program does.
func wantMeaning(t *testing.T, src string, c compiled, v api.View, regs [8]int) {
	t.Helper()
	loaded, _ := vm.Load(c.code)
	want := does(src, v, regs)
	for _, fuel := range []int{c.need, math.MaxInt} {
		if got := loaded.Run(v, regs, fuel); !reflect.DeepEqual(got, want) {
			t.Fatalf("%q\nwith %+v %v\ndoes %+v\nwant %+v", src, v, regs, got, want)
		}
	}
}

func TestCodeDoesWhatTheProgramDoes(t *testing.T) {
	t.Parallel()
	random := rand.New(rand.NewPCG(7, 8))
	steered := 0
	for range 3000 {
		w := writer{random: random, flat: 1 + random.IntN(3)}
		src := w.program()
		if len(src) > 4000 || w.cost > 20000 {
			continue
		}
		plain, better := compile(t, src, false), compile(t, src, true)
		for range 3 {
			v, regs := someView(random), someRegisters(random)
			wantMeaning(t, src, plain, v, regs)
			wantMeaning(t, src, better, v, regs)
			steered += min(1, len(does(src, v, regs).Actions))
		}
	}
	if steered < 1000 {
		t.Errorf("%d runs had actions: the writer does not write what it should", steered)
	}
}

// What a name's slot is used for while an expr is worked out.
func TestNamesKeepWhatTheyHave(t *testing.T) {
	random := rand.New(rand.NewPCG(9, 10))
	for _, src := range []string{
		"R0 = 1 + R0;", "R0 = R1 - R0 * R0;", "R0 = (R0 + 1) * (R0 + 2);", "R0 = FRESH.sum(p: R0 + p.size);", "R0 = -R0; R0 = R0;",
		"R0 = ROADS.filter(r: r.rtt > R0).count;", "R0 = FRESH.filter(p: p.size > R0).sum(p: R0);", "R0 = ROADS.max(r: r.rtt * R0).rtt;",
		"var x = 3; x = x + FRESH.sum(p: x); R0 = x;", "var x = ROADS.first; x = ROADS.filter(r: r.id > x.id).first; R0 = x.id;", "var x = true; x = ROADS.any(r: x && r.lossy); if x { R0 = 1; }",
		"var x = 1; var y = x; x = 2; R0 = y; R1 = x;", "var x = R0; R0 = 5; R1 = x;", "var x = ROADS.min(r: r.rtt); var y = x; x = ROADS.max(r: r.rtt); push(x, FRESH.first); push(y, FRESH.first);",
		"each p in FRESH { var x = p; each q in AGAIN { x = q; } push(ROADS.first, x); push(ROADS.first, p); }",
		"each p in FRESH.filter(q: R0 == 0) { R0 = 1; push(ROADS.first, p); }", "R0 = 0; each r in ROADS.filter(r: R0 < 3) { R0 = R0 + 1; R1 = R1 + r.id; }",
		"var n = 0; each p in FRESH.filter(p: n == 0).filter(p: p.size > 0) { n = n + 1; } R0 = n;", "each r in ROADS { if r.lossy { return; } push(r, FRESH.first); } R0 = 7;",
		"var x = 0; each r in ROADS { var y = r.id; if y > 3 { var z = y; x = x + z; } else { var z = true; if z { x = x - 1; } } } R0 = x;",
		"each p in FRESH { each q in AGAIN { push(ROADS.first, p); } } R0 = 1;",
	} {
		for range 50 {
			v, regs := someView(random), someRegisters(random)
			for _, better := range bothWays {
				wantMeaning(t, src, compile(t, src, better), v, regs)
			}
		}
	}
}

// What Compile answers hangs on its arguments alone.
func TestCodeHangsOnTheTextAlone(t *testing.T) {
	texts := []string{"", "R0 = 1 + 2;", "each p in FRESH { push(ROADS.first, p); }", "var x = true; if x { R0 = R1; }", "R0 = FRESH.filter(p: p.size > 2).sum(p: p.seq);"}
	first := make([]string, 2*len(texts))
	for i := range first {
		first[i], _, _ = lang.Compile(texts[i/2], i%2 == 1)
	}
	var group sync.WaitGroup
	for range 8 {
		group.Go(func() {
			for i, want := range first {
				if got, _, _ := lang.Compile(texts[i/2], i%2 == 1); got != want {
					t.Errorf("Compile(%q) = %x, and %x before", texts[i/2], got, want)
				}
			}
		})
	}
	group.Wait()
}
