package vm_test

import (
	"math"
	"reflect"
	"slices"
	"strconv"
	"strings"
	"sync"
	"testing"

	"helm/api"
	"helm/lang"
	"helm/vm"
)

// A view with what a helm would like to tell apart: two roads with the least
// Rtt, two with the greatest; packets of one size; packets that went out.
var busy = api.View{
	Roads: []api.Road{
		{Id: 3, Rtt: 40, Cwnd: 2, Out: 2},
		{Id: 0, Rtt: 10, Cwnd: 4, Out: 1, Lossy: true},
		{Id: 7, Rtt: 10, Cwnd: 3},
		{Id: 1, Rtt: 40, Cwnd: 8, Out: 8, Lossy: true},
	},
	Fresh: []api.Packet{{Seq: 20, Size: 5}, {Seq: 21, Size: 9}, {Seq: 22, Size: 5}, {Seq: 23, Size: 9}},
	Again: []api.Packet{{Seq: 11, Size: 7, On: 1<<3 | 1<<0}, {Seq: 9, Size: 7, On: 1 << 7}},
}

var small = api.View{
	Roads: []api.Road{{Id: 5, Rtt: -1, Cwnd: 1, Out: 1}},
	Fresh: []api.Packet{{Seq: math.MaxInt, Size: math.MinInt, On: -1}},
}

// full makes a view with as much as there may be.
func full() api.View {
	var v api.View
	for i := range 8 {
		v.Roads = append(v.Roads, api.Road{Id: (i + 3) % 8, Rtt: 100 - i, Cwnd: i, Out: 7 - i, Lossy: i%2 == 1})
	}
	for i := range 16 {
		v.Fresh = append(v.Fresh, api.Packet{Seq: 100 + i, Size: i * i % 7, On: i})
		v.Again = append(v.Again, api.Packet{Seq: 50 - i, Size: i * i % 11, On: 255 - i})
	}
	return v
}

func views() []api.View {
	all := full()
	return []api.View{{}, busy, small, all, {Roads: all.Roads}, {Fresh: all.Fresh}, {Again: all.Again}, {Roads: busy.Roads, Again: all.Again}}
}

func load(t *testing.T, code string) *vm.Code {
	t.Helper()
	c, errno := vm.Load(code)
	if c == nil || errno != api.OK {
		t.Fatalf("Load(%.60x) = %v, %d", code, c, errno)
	}
	return c
}

func program(t *testing.T, src string, better bool) *vm.Code {
	t.Helper()
	code, errno, at := lang.Compile(src, better)
	if errno != api.OK {
		t.Fatalf("Compile(%q, %t) = %d, %d", src, better, errno, at)
	}
	return load(t, code)
}

// tell writes a result down: its status if it is not Done, the actions (the
// road, the packet), the registers that are not 0.
func tell(r api.Result) string {
	words := []string{}
	if r.Status != api.Done {
		words = append(words, "status "+strconv.Itoa(int(r.Status)))
	}
	for _, a := range r.Actions {
		words = append(words, strconv.Itoa(a.Road)+"<"+strconv.Itoa(a.Seq))
	}
	for i, n := range r.Regs {
		if n != 0 {
			words = append(words, "R"+strconv.Itoa(i)+"="+strconv.Itoa(n))
		}
	}
	return strings.Join(words, " ")
}

// wantRuns holds programs, with and without better, to what they do.
func wantRuns(t *testing.T, v api.View, regs [8]int, runs map[string]string) {
	t.Helper()
	for src, want := range runs {
		for _, better := range []bool{false, true} {
			c := program(t, src, better)
			if got := tell(c.Run(v, regs, c.Need())); got != want {
				t.Errorf("%q (%t) does %q, want %q", src, better, got, want)
			}
		}
	}
}

func TestRuns(t *testing.T) {
	wantRuns(t, busy, [8]int{}, map[string]string{
		"":                                "",
		"return;":                         "",
		"push(ROADS.first, FRESH.first);": "3<20",
		"push(ROADS.first, AGAIN.first); push(ROADS.first, AGAIN.first);":                                                                    "3<11 3<11",
		"each p in FRESH { push(ROADS.filter(r: r.out < r.cwnd).min(s: s.rtt), p); }":                                                        "0<20 0<21 0<22 0<23",
		"each p in AGAIN { push(ROADS.filter(r: !p.on(r)).first, p); }":                                                                      "7<11 3<9",
		"each r in ROADS.filter(r: r.lossy) { each p in AGAIN { push(r, p); } }":                                                             "0<11 0<9 1<11 1<9",
		"each r in ROADS.filter(r: r.rtt > 9).filter(q: q.out > 0).filter(s: s.id != 0) { R7 = R7 + r.id; }":                                 "R7=4",
		"var n = 0; each p in FRESH { if n < 2 { push(ROADS.first, p); n = n + 1; } else { push(ROADS.filter(r: r.id == 7).first, p); } }":   "3<20 3<21 7<22 7<23",
		"R0 = ROADS.count; R1 = FRESH.count; R2 = AGAIN.count; R3 = FRESH.filter(p: p.size > 5).count;":                                      "R0=4 R1=4 R2=2 R3=2",
		"R0 = ROADS.sum(r: r.cwnd - r.out); R1 = AGAIN.sum(p: p.seq * ROADS.sum(r: r.id)); R2 = FRESH.filter(p: p.size < 1).sum(p: p.size);": "R0=6 R1=220",
		"if ROADS.any(r: r.id == 7 && r.rtt == 10) { R0 = 1; } if ROADS.any(r: r.rtt > 40) { R1 = 1; } else { R1 = 2; }":                     "R0=1 R1=2",
		"var r = ROADS.filter(r: r.id == 1).first; R0 = r.id; R1 = r.rtt; R2 = r.cwnd; R3 = r.out; if r.lossy { R4 = 1; }":                   "R0=1 R1=40 R2=8 R3=8 R4=1",
		"var p = AGAIN.filter(p: p.seq < 10).first; R0 = p.seq; R1 = p.size; if p.on(ROADS.first) { R2 = 1; }":                               "R0=9 R1=7",
		"R0 = 7; if R0 == 7 { R1 = R0; R0 = 0; } if R0 != 0 { R2 = 1; } R3 = R1 - 2 * 3;":                                                    "R1=7 R3=1",
		"if true == false || !(1 >= 2) && 2 <= 2 && 1 > 0 && true != false { R0 = 1; }":                                                      "R0=1",
	})
}

// The registers come from the run before.
func TestRegistersStay(t *testing.T) {
	c := program(t, "R0 = R0 + 1; if R0 % 2 == 0 { return; } push(ROADS.first, AGAIN.first); R1 = R1 * R2;", true)
	regs := [8]int{1: 1, 2: -3}
	for _, want := range []string{"3<11 R0=1 R1=-3 R2=-3", "R0=2 R1=-3 R2=-3", "3<11 R0=3 R1=9 R2=-3", "R0=4 R1=9 R2=-3"} {
		r := c.Run(busy, regs, c.Need())
		if tell(r) != want {
			t.Errorf("%q, want %q", tell(r), want)
		}
		regs = r.Regs
	}
}

func TestNumbersWrap(t *testing.T) {
	const least, most = math.MinInt, math.MaxInt
	wantRuns(t, api.View{}, [8]int{least, most, -1, 0, 1 << 62}, map[string]string{
		"R0 = R0 / R2; R1 = 0; R2 = 0; R4 = 0;":                        "R0=" + strconv.Itoa(least),
		"R0 = R0 % R2; R1 = 0; R2 = 0; R4 = 0;":                        "",
		"R0 = -R0; R1 = 0; R2 = 0; R4 = 0;":                            "R0=" + strconv.Itoa(least),
		"R0 = R1 + 1; R1 = 0; R2 = 0; R4 = 0;":                         "R0=" + strconv.Itoa(least),
		"R1 = R0 - 1; R0 = 0; R2 = 0; R4 = 0;":                         "R1=" + strconv.Itoa(most),
		"R0 = R4 * 2; R1 = R4 * 4; R2 = 0; R4 = 0;":                    "R0=" + strconv.Itoa(least),
		"R0 = R0 / R3; R1 = R1 % R3; R2 = R2 / R3 + R2 % R3; R4 = 0;":  "",
		"R0 = -7 / 2; R1 = 7 / -2; R2 = -7 % 2; R4 = 7 % -2;":          "R0=-3 R1=-3 R2=-1 R4=1",
		"R0 = 5 / 0; R1 = 5 % 0; R2 = 0 / 0; R4 = (0 - 5) / (1 - 1);":  "",
		"if R0 < R1 && R2 > R0 { R0 = 1; R1 = 2; R2 = 3; } R4 = 0;":    "R0=1 R1=2 R2=3",
		"if R0 - 1 < R0 { R3 = 1; } R0 = 0; R1 = 0; R2 = 0; R4 = 0;":   "",
		"R0 = 0 - 999999999999999999; R1 = 0; R2 = 0; R4 = 0; R5 = 0;": "R0=-999999999999999999",
	})
}

func TestSumsWrap(t *testing.T) {
	v := api.View{Fresh: []api.Packet{{Seq: math.MaxInt}, {Seq: 1}, {Seq: math.MaxInt}}}
	wantRuns(t, v, [8]int{}, map[string]string{"R0 = FRESH.sum(p: p.seq);": "R0=-1"})
}

func TestNone(t *testing.T) {
	none := "var r = ROADS.filter(r: false).first; var p = FRESH.filter(p: p.size > 99).max(p: p.seq);"
	wantRuns(t, busy, [8]int{}, map[string]string{
		none + "R0 = r.id + 1; R1 = r.rtt + 2; R2 = r.cwnd + 3; R3 = r.out + 4; R4 = p.seq + 5; R5 = p.size + 6; if r.lossy { R6 = 1; }":                       "R0=1 R1=2 R2=3 R3=4 R4=5 R5=6",
		none + "if p.on(ROADS.first) { R0 = 1; } if AGAIN.first.on(r) { R1 = 1; } if p.on(r) { R2 = 1; } if AGAIN.first.on(ROADS.first) { R3 = 1; }":           "R3=1",
		none + "if isnone(r) { R0 = 1; } if isnone(p) { R1 = 1; } if isnone(ROADS.first) { R2 = 1; } if isnone(AGAIN.filter(q: q.seq == 9).first) { R3 = 1; }": "R0=1 R1=1",
		none + "push(r, FRESH.first); push(ROADS.first, p); push(r, p); push(ROADS.first, FRESH.first);":                                                       "3<20",
		none + "r = ROADS.first; push(r, FRESH.first); r = ROADS.filter(q: q.rtt < 0).min(q: q.rtt); push(r, FRESH.first);":                                    "3<20",
		none + "R0 = ROADS.filter(q: q.id == r.id).first.rtt; R1 = ROADS.min(q: r.rtt).id; R2 = FRESH.filter(q: q.on(r)).count;":                               "R0=10 R1=3",
	})
	wantRuns(t, api.View{}, [8]int{}, map[string]string{
		"push(ROADS.first, FRESH.first); push(ROADS.min(r: 1), AGAIN.max(p: 1));":                                                "",
		"each r in ROADS { R0 = 1; } each p in FRESH { R1 = 1; } each p in AGAIN { R2 = 1; } if isnone(ROADS.first) { R3 = 1; }": "R3=1",
		"R0 = ROADS.count + FRESH.sum(p: 1) + AGAIN.first.seq; if FRESH.any(p: true) { R1 = 1; }":                                "",
	})
}

func TestMeasuresAlike(t *testing.T) {
	wantRuns(t, busy, [8]int{}, map[string]string{
		"push(ROADS.min(r: r.rtt), FRESH.min(p: p.size)); push(ROADS.max(r: r.rtt), FRESH.max(p: p.size));":      "0<20 3<21",
		"push(ROADS.min(r: 0), FRESH.max(p: 0)); push(ROADS.max(r: -1), AGAIN.min(p: p.size));":                  "3<20 3<11",
		"push(ROADS.filter(r: r.id > 0).min(r: r.rtt), FRESH.filter(p: p.seq > 20).min(p: p.size));":             "7<22",
		"push(ROADS.min(r: 0 - r.id), FRESH.max(p: 0 - p.seq)); push(ROADS.max(r: r.id), FRESH.min(p: -p.seq));": "7<20 7<23",
	})
	least := api.View{Roads: []api.Road{{Id: 1, Rtt: math.MaxInt}, {Id: 2, Rtt: math.MaxInt}, {Id: 3, Rtt: math.MinInt}}, Fresh: busy.Fresh}
	wantRuns(t, least, [8]int{}, map[string]string{
		"push(ROADS.max(r: r.rtt), FRESH.first); push(ROADS.min(r: r.rtt), FRESH.first);":                                           "1<20 3<20",
		"push(ROADS.filter(r: r.rtt > 0).min(r: r.rtt), FRESH.first); push(ROADS.filter(r: r.rtt < 0).max(r: r.rtt), FRESH.first);": "1<20 3<20",
	})
}

// What the block does changes nothing of what each goes through.
func TestEachGoesThroughWhatThereWas(t *testing.T) {
	wantRuns(t, busy, [8]int{}, map[string]string{
		"each p in FRESH.filter(q: R0 == 0) { R0 = R0 + 1; push(ROADS.first, p); }":                 "3<20 3<21 3<22 3<23 R0=4",
		"each p in FRESH.filter(q: R0 > 0) { push(ROADS.first, p); } R0 = 1;":                       "R0=1",
		"var n = 0; each r in ROADS.filter(q: q.id > n) { n = n + 10; R0 = R0 * 10 + r.id; }":       "R0=371",
		"each r in ROADS { each s in ROADS.filter(q: q.id > R1) { R0 = R0 + 1; } R1 = 6; }":         "R0=6 R1=6",
		"var x = ROADS.first; each r in ROADS.filter(q: q.rtt == x.rtt) { x = r; R0 = R0 + r.id; }": "R0=4",
	})
}

func TestReturnEndsTheRun(t *testing.T) {
	wantRuns(t, busy, [8]int{5: 5}, map[string]string{
		"return; R0 = 1;":         "R5=5",
		"R0 = 1; return; R0 = 2;": "R0=1 R5=5",
		"each p in FRESH { if p.seq == 22 { return; } push(ROADS.first, p); } R0 = 1;":                                "3<20 3<21 R5=5",
		"each r in ROADS { each p in FRESH { R5 = R5 + 1; if r.id == 0 && p.seq == 21 { return; } } R0 = R0 + 1; }":   "R0=1 R5=11",
		"if R5 == 5 { R5 = 6; if R5 == 6 { return; } else { R0 = 1; } R0 = 2; } R0 = 3;":                              "R5=6",
		"each r in ROADS.filter(r: r.id > 8) { return; } R0 = 1;":                                                     "R0=1 R5=5",
		"each a in ROADS { each b in ROADS { if b.id == 7 { push(a, FRESH.first); return; } R0 = R0 + 1; } R1 = 1; }": "3<20 R0=2 R5=5",
	})
}

func TestFullView(t *testing.T) {
	v, want := full(), []string{}
	for _, p := range slices.Concat(v.Fresh, v.Again) {
		want = append(want, "3<"+strconv.Itoa(p.Seq))
	}
	for _, r := range v.Roads {
		want = append(want, strconv.Itoa(r.Id)+"<50")
	}
	wantRuns(t, v, [8]int{}, map[string]string{
		"each p in FRESH { push(ROADS.first, p); } each p in AGAIN { push(ROADS.first, p); } each r in ROADS { push(r, AGAIN.first); }": strings.Join(want, " "),
		"push(ROADS.min(r: r.rtt), FRESH.max(p: p.seq)); push(ROADS.max(r: r.cwnd), AGAIN.min(p: p.seq));":                              "2<115 2<35",
		"R0 = ROADS.count; R1 = FRESH.count; R2 = AGAIN.count; each r in ROADS { R3 = R3 * 10 + FRESH.filter(p: p.on(r)).count; }":      "R0=8 R1=16 R2=16 R3=80000888",
	})
	wantRuns(t, small, [8]int{}, map[string]string{
		"if FRESH.first.on(ROADS.first) { R0 = FRESH.first.size + FRESH.first.seq; } push(ROADS.first, FRESH.first);": "5<9223372036854775807 R0=-1",
	})
}

// pushes pushes as many as R0 says, and onto NONE in between, which is nothing.
const pushes = "var none = ROADS.filter(r: false).first; each p in FRESH { each r in ROADS { each q in AGAIN { push(none, p); if R0 > 0 { R0 = R0 - 1; push(r, q); } } } }"

func TestMostActions(t *testing.T) {
	for _, better := range []bool{false, true} {
		c := program(t, pushes, better)
		for _, n := range []int{-1, 0, 1, 255, 256} {
			if r := c.Run(full(), [8]int{n, 9}, c.Need()); r.Status != api.Done || len(r.Actions) != max(0, n) || r.Regs != [8]int{min(0, n), 9} {
				t.Errorf("%d actions: %d, %d of them, %v", n, r.Status, len(r.Actions), r.Regs)
			}
		}
		for _, n := range []int{257, 258, 2048, math.MaxInt} {
			wantWrong(t, c, full(), [8]int{n, 9}, c.Need(), api.Overflow)
			wantWrong(t, c, full(), [8]int{n, 9}, math.MaxInt, api.Overflow)
			wantWrong(t, c, full(), [8]int{n, 9}, 0, api.Starved)
		}
	}
}

// Whatever follows the action that is too much: the run has gone wrong.
func TestOverflowIsTold(t *testing.T) {
	many := "each p in FRESH { each q in AGAIN { push(ROADS.first, p); } } R0 = 1;"
	for _, better := range []bool{false, true} {
		for src, want := range map[string]uint8{
			many:                                     api.Done,
			many + "push(ROADS.first, FRESH.first);": api.Overflow,
			many + "push(ROADS.first, FRESH.first); return;": api.Overflow,
			many + many: api.Overflow,
			many + "push(ROADS.first, FRESH.filter(p: false).first);": api.Done,
			many + "return; push(ROADS.first, FRESH.first);":          api.Done,
		} {
			c := program(t, src, better)
			r := c.Run(full(), [8]int{4, 5}, c.Need())
			if r.Status != want || r.Status == api.Done && (len(r.Actions) != 256 || r.Regs != [8]int{1, 5}) {
				t.Errorf("%q: %d, %d actions, %v", src, r.Status, len(r.Actions), r.Regs)
			}
			if want == api.Overflow {
				wantWrong(t, c, full(), [8]int{4, 5}, c.Need(), api.Overflow)
			}
		}
	}
}

// wantWrong holds a run that goes wrong to one of some statuses, no actions, and
// the registers as they were.
func wantWrong(t *testing.T, c *vm.Code, v api.View, regs [8]int, fuel int, among ...uint8) {
	t.Helper()
	r := c.Run(v, regs, fuel)
	if !slices.Contains(among, r.Status) || len(r.Actions) > 0 || r.Regs != regs {
		t.Errorf("with the fuel %d: %+v, want %v", fuel, r, among)
	}
}

// With less fuel than it takes a run is Starved, with more it is what it is with
// enough: nothing lies between.
func TestFuel(t *testing.T) {
	regs := [8]int{0, 1, 2, 3, 4, 5, 6, 7}
	for i, code := range codes(t) {
		c := load(t, code)
		for _, v := range views() {
			want := c.Run(v, regs, c.Need())
			isEnough := false
			for fuel := -2; fuel < min(c.Need()+3, 3000); fuel++ {
				got := c.Run(v, regs, fuel)
				isEnough = isEnough || got.Status != api.Starved
				if isEnough && !reflect.DeepEqual(got, want) {
					t.Fatalf("%q with the fuel %d: %+v, want %+v", programs[i/2], fuel, got, want)
				}
				if !isEnough {
					wantWrong(t, c, v, regs, fuel, api.Starved)
				}
			}
			for _, fuel := range []int{c.Need() + 1, 1 << 40, math.MaxInt} {
				if got := c.Run(v, regs, fuel); got.Status == api.Starved || !reflect.DeepEqual(got, want) {
					t.Errorf("%q with the fuel %d: %+v, want %+v", programs[i/2], fuel, got, want)
				}
			}
			for _, fuel := range []int{math.MinInt, -1, 0} {
				wantWrong(t, c, v, regs, fuel, api.Starved)
			}
		}
	}
}

// Programs without a choice take all that they need.
func TestOneStepTooFew(t *testing.T) {
	for _, src := range []string{"", "R0 = R1 + 1;", "push(ROADS.first, FRESH.first);", "each r in ROADS { R0 = r.id; } R0 = FRESH.sum(p: p.size);", "each p in AGAIN.filter(p: true) { each r in ROADS { R0 = R0 + 1; } }"} {
		for _, better := range []bool{false, true} {
			c := program(t, src, better)
			wantWrong(t, c, full(), [8]int{7}, c.Need()-1, api.Starved)
			if r := c.Run(full(), [8]int{7}, c.Need()); r.Status != api.Done {
				t.Errorf("%q with what it needs: %d", src, r.Status)
			}
		}
	}
}

// badViews are such as may not be, each for one reason alone.
func badViews() []api.View {
	all := full()
	nine := append(slices.Clone(all.Roads), api.Road{Id: 8})
	alike := append(slices.Clone(all.Roads), api.Road{Id: 0})
	lastAlike := slices.Clone(all.Roads)
	lastAlike[7].Id = lastAlike[0].Id
	many := append(slices.Clone(all.Fresh), api.Packet{})
	return []api.View{
		{Roads: nine}, {Roads: alike}, {Roads: lastAlike}, {Roads: make([]api.Road, 9)}, {Roads: make([]api.Road, 100)},
		{Roads: []api.Road{{Id: -1}}}, {Roads: []api.Road{{Id: 8}}}, {Roads: []api.Road{{Id: 64}}}, {Roads: []api.Road{{Id: math.MinInt}}}, {Roads: []api.Road{{Id: math.MaxInt}}},
		{Roads: []api.Road{{Id: 7}, {Id: 7}}}, {Roads: []api.Road{{Id: 0}, {Id: 1}, {Id: 0}}}, {Roads: []api.Road{{Id: 1}, {Id: 2}, {Id: 8}}},
		{Fresh: many}, {Again: many}, {Fresh: make([]api.Packet, 1000)}, {Roads: all.Roads, Fresh: all.Fresh, Again: many}, {Roads: all.Roads, Fresh: many, Again: all.Again},
		{Roads: nine, Fresh: many, Again: many},
	}
}

func TestBadViews(t *testing.T) {
	regs := [8]int{1, -1, math.MaxInt, 3, 4, 5, 6, 7}
	for i, v := range badViews() {
		for _, code := range codes(t) {
			c := load(t, code)
			for _, fuel := range []int{c.Need(), c.Need() + 1, math.MaxInt} {
				wantWrong(t, c, v, regs, fuel, api.BadView)
			}
			for _, fuel := range []int{math.MinInt, -1, 0, c.Need() - 1} {
				wantWrong(t, c, v, regs, fuel, api.Starved, api.BadView)
			}
		}
		if t.Failed() {
			t.Fatalf("the view %d: %+v", i, v)
		}
	}
}

// copyOf copies a view, with what lies behind its lists.
func copyOf(v api.View) api.View {
	whole := api.View{Roads: v.Roads[:cap(v.Roads)], Fresh: v.Fresh[:cap(v.Fresh)], Again: v.Again[:cap(v.Again)]}
	return api.View{Roads: slices.Clone(whole.Roads), Fresh: slices.Clone(whole.Fresh), Again: slices.Clone(whole.Again)}
}

func TestViewsAreNotChanged(t *testing.T) {
	v := full()
	v.Roads, v.Fresh, v.Again = v.Roads[:5], v.Fresh[:9], v.Again[:3]
	before := copyOf(v)
	for _, code := range codes(t) {
		c := load(t, code)
		c.Run(v, [8]int{}, c.Need())
		if after := copyOf(v); !reflect.DeepEqual(after, before) {
			t.Fatalf("the view was %+v, and is %+v", before, after)
		}
	}
}

// The actions are the caller's: neither later runs nor what is done with the
// view changes them, and what is done with them changes no later run.
func TestActionsAreTheCallers(t *testing.T) {
	c := program(t, "each p in FRESH { push(ROADS.first, p); }", false)
	v := api.View{Roads: slices.Clone(busy.Roads), Fresh: slices.Clone(busy.Fresh)}
	first := c.Run(v, [8]int{}, c.Need())
	second := c.Run(v, [8]int{}, c.Need())
	v.Roads[0].Id, v.Fresh[1].Seq = 6, 77
	first.Actions[0] = api.Action{Road: 9, Seq: 9}
	_ = append(first.Actions[:1], first.Actions[:3]...)
	if got := tell(second); got != "3<20 3<21 3<22 3<23" {
		t.Errorf("the actions became %q", got)
	}
	if got := tell(c.Run(v, [8]int{}, c.Need())); got != "6<20 6<77 6<22 6<23" {
		t.Errorf("the next run did %q", got)
	}
}

// A run leaves nothing behind for the next one, nor for one at the same time.
func TestRunsKnowNothingOfOneAnother(t *testing.T) {
	regs := [8]int{3, 1, 4, 1, 5, 9, 2, 6}
	var group sync.WaitGroup
	for _, code := range codes(t) {
		c := load(t, code)
		wants := []api.Result{}
		for _, v := range views() {
			wants = append(wants, load(t, code).Run(v, regs, c.Need()))
		}
		for range 4 {
			group.Go(func() {
				for i, v := range views() {
					c.Run(v, regs, c.Need()/2)
					if got := c.Run(v, regs, c.Need()); !reflect.DeepEqual(got, wants[i]) {
						t.Errorf("%+v, want %+v", got, wants[i])
					}
				}
			})
		}
	}
	group.Wait()
}
