package lang_test

import (
	"strings"
	"sync"
	"testing"

	"helm/api"
	"helm/lang"
)

// wantCost holds Check to a cost, and Compile to code that fits it.
func wantCost(t *testing.T, src string, want int) {
	t.Helper()
	if cost, errno, at := lang.Check(src); cost != want || errno != api.OK || at != 0 {
		t.Errorf("Check(%.80q) = %d, %d, %d, want the cost %d", src, cost, errno, at, want)
		return
	}
	wantCode(t, src, want)
}

// wantFault holds Check and Compile to an error and its place.
func wantFault(t *testing.T, src string, want api.Errno, place int) {
	t.Helper()
	if cost, errno, at := lang.Check(src); cost != 0 || errno != want || at != place {
		t.Errorf("Check(%.80q) = %d, %d, %d, want 0, %d, %d", src, cost, errno, at, want, place)
	}
	for _, better := range bothWays {
		if code, errno, at := lang.Compile(src, better); code != "" || errno != want || at != place {
			t.Errorf("Compile(%.80q, %t) = %x, %d, %d, want nothing, %d, %d", src, better, code, errno, at, want, place)
		}
	}
}

// wantFaultAtMark does so for texts in which an @ stands ahead of the place.
func wantFaultAtMark(t *testing.T, want api.Errno, marked ...string) {
	t.Helper()
	for _, src := range marked {
		place := strings.Index(src, "@")
		if place < 0 {
			t.Fatalf("%q has no mark", src)
		}
		wantFault(t, strings.Replace(src, "@", "", 1), want, place)
	}
}

func TestExamplesOfTheDocument(t *testing.T) {
	wantCost(t, "push(ROADS.first, FRESH.first);", 5)
	wantCost(t, "each p in FRESH { push(ROADS.filter(r: r.out < r.cwnd).min(s: s.rtt), p); }", 1234)
	wantCost(t, "R0 = R0 + 1; if R0 % 2 == 0 { return; } push(ROADS.first, AGAIN.first);", 16)
	wantFault(t, "var x = 1", api.ErrText, 9)
	wantFault(t, "x = 1;", api.ErrName, 0)
	wantFault(t, "var x = ROADS.first; x = 1;", api.ErrType, 25)
	wantFault(t, "push(FRESH.first, 1);", api.ErrType, 5)
	wantFault(t, "var x = ROADS.first.size;", api.ErrType, 8)
	wantFault(t, "var x = ROADS.first.weight;", api.ErrName, 20)
}

func TestCosts(t *testing.T) {
	for src, want := range map[string]int{
		"":                            0,
		"\n \n":                       0,
		"return;":                     1,
		"R7=0;":                       2,
		"R0 = ((R1));":                2,
		"R0 = --1;":                   4,
		"var a = !!true;":             4,
		"R0 = 1 + 2 - 3 * 4 / 5 % 6;": 12,
		"var a = 1 < 2 == 3 >= 4 && true || false;":                12,
		"var r = ROADS.first; r = r;":                              5,
		"var r = ROADS.first; R0 = r.id + r.rtt + r.cwnd + r.out;": 15,
		"var r = ROADS.first; if r.lossy { R0 = r.id; }":           9,
		"var p = AGAIN.first; R0 = p.seq * p.size;":                9,
		"if isnone(ROADS.first) { } else { }":                      4,
		"if true { return; R0 = 1; } else { R1 = 2; }":             7,
		"each r in ROADS { }":                                      10,
		"each p in FRESH { }":                                      18,
		"each p in AGAIN { }":                                      18,
		"each r in ROADS { each p in FRESH { } }":                  154,
		"each r in ROADS.filter(a: true) { }":                      26,
		"each r in ROADS.filter(a: true).filter(a: !false) { }":    50,
		"R0 = AGAIN.count;":                                        3,
		"R0 = AGAIN.filter(p: p.on(ROADS.first)).count;":           83,
		"var r = ROADS.min(r: r.rtt);":                             27,
		"var p = FRESH.max(p: p.size);":                            51,
		"R0 = FRESH.sum(p: 1);":                                    35,
		"var a = ROADS.any(r: r.lossy);":                           27,
		"R0 = ROADS.sum(r: FRESH.sum(p: 1));":                      283,
		"R0 = ROADS.filter(r: r.lossy).sum(r: r.rtt);":             51,
	} {
		wantCost(t, src, want)
	}
}

// costing makes a program of a cost from loops in loops and returns.
func costing(cost int) string {
	const fourLoops = "each a in FRESH{each b in FRESH{each c in FRESH{each d in FRESH{}}}}"
	pieces := []struct {
		src  string
		cost int
	}{
		{fourLoops, 78642},
		{"each b in FRESH{each c in FRESH{each d in FRESH{}}}", 4914},
		{"each c in FRESH{each d in FRESH{}}", 306},
		{"each d in FRESH{}", 18},
		{"return;", 1},
	}
	var src strings.Builder
	for _, piece := range pieces {
		src.WriteString(strings.Repeat(piece.src, cost/piece.cost))
		cost %= piece.cost
	}
	return src.String()
}

func TestCostIsBounded(t *testing.T) {
	for _, cost := range []int{18, 999999, 1000000} {
		wantCost(t, costing(cost), cost)
	}
	for _, cost := range []int{1000001, 1000002, 1100000} {
		wantFault(t, costing(cost), api.ErrCost, 0)
	}
	filters := strings.Repeat("ROADS.filter(%: ", 18)
	for i := range 18 {
		filters = strings.Replace(filters, "%", string(rune('a'+i)), 1)
	}
	filters = "R0 = " + filters + "true" + strings.Repeat(").count > 0", 17) + ").count;"
	wantFault(t, filters, api.ErrCost, 0)
}

// Costs that do not fit 64 bits must not come round to small ones.
func TestCostsBeyondAllBounds(t *testing.T) {
	for depth := 5; depth <= 20; depth++ {
		for returns := range 15 {
			var loops strings.Builder
			for i := range depth {
				loops.WriteString("each " + string(rune('a'+i)) + " in FRESH {")
				loops.WriteString(strings.Repeat("return;", returns))
			}
			loops.WriteString(strings.Repeat("}", depth))
			wantFault(t, loops.String(), api.ErrCost, 0)
		}
	}
}

func TestCostComesLast(t *testing.T) {
	tooMuch := costing(1000001)
	wantFault(t, tooMuch+"x=1;", api.ErrName, len(tooMuch))
	wantFault(t, tooMuch+"R0=true;", api.ErrType, len(tooMuch)+3)
	wantFault(t, tooMuch+"R0=", api.ErrText, len(tooMuch)+3)
}

func TestTextIsBounded(t *testing.T) {
	wantCost(t, strings.Repeat("R0=1;", 800), 1600)
	wantCost(t, strings.Repeat(" ", 4000), 0)
	wantCost(t, "return;"+strings.Repeat("\n", 3993), 1)
	wantFault(t, strings.Repeat(" ", 3999)+"}", api.ErrText, 3999)
	wantFault(t, strings.Repeat(" ", 3998)+"R0", api.ErrText, 4000)
	wantFault(t, strings.Repeat("R0=1;", 800)+" ", api.ErrText, 0)
	wantFault(t, strings.Repeat(" ", 4001), api.ErrText, 0)
	wantFault(t, "return; }"+strings.Repeat(" ", 4000), api.ErrText, 0)
	wantFault(t, "x = 1;"+strings.Repeat(" ", 4000), api.ErrText, 0)
	wantFault(t, strings.Repeat("-", 1000000), api.ErrText, 0)
}

func TestNamesAreBounded(t *testing.T) {
	wantCost(t, "var abcdefghij12 = 1; abcdefghij12 = 2;", 4)
	wantCost(t, "each abcdefghijkl in FRESH { push(ROADS.first, abcdefghijkl); }", 2+16*5)
	wantFaultAtMark(t, api.ErrText,
		"@abcdefghijklm = 1;",
		"var @abcdefghij123 = 1;",
		"each @abcdefghijklm in FRESH { }",
		"R0 = ROADS.sum(@abcdefghijklm: 1);",
		"R0 = ROADS.first.@abcdefghijklm;",
		"R0 = ROADS.@filterfilters(r: true).count;",
		"R0 = 1@abcdefghijklm;",
		"@returnreturns;",
	)
	wantFaultAtMark(t, api.ErrName, "R0 = ROADS.first.@abcdefghijkl;", "@abcdefghijkl = 1;")
}

func TestNumbersAreBounded(t *testing.T) {
	wantCost(t, "R0 = 123456789012345678;", 2)
	wantCost(t, "R0 = 000000000000000000;", 2)
	wantCost(t, "R0 = 999999999999999999 + 999999999999999999;", 4)
	wantFaultAtMark(t, api.ErrText,
		"R0 = @1234567890123456789;",
		"R0 = @0000000000000000000;",
		"R0 = 1 + @1234567890123456789",
		"R0@1234567890123456789 = 1;",
		"R0 = @"+strings.Repeat("9", 3000),
	)
}

func TestNestingIsBounded(t *testing.T) {
	open := func(n int, sign string) string { return strings.Repeat(sign, n) }
	wantCost(t, "R0 = "+open(20, "(")+"1"+open(20, ")")+";", 2)
	wantCost(t, open(20, "if true {")+open(20, "}"), 40)
	wantCost(t, open(19, "if true {")+"push(ROADS.first, FRESH.first);"+open(19, "}"), 43)
	wantCost(t, open(19, "if true {")+"R0 = (1) + (2); if isnone(ROADS.first) == (true) { }"+open(19, "}"), 48)
	wantCost(t, "R0 = "+strings.Repeat("(1) + ", 100)+"(1);", 202)
	wantCost(t, strings.Repeat("if true { } else { }", 50), 100)
	wantFaultAtMark(t, api.ErrText,
		"R0 = "+open(20, "(")+"@(1"+open(21, ")")+";",
		"R0 = "+open(20, "(")+"@("+open(1000, "("),
		open(20, "if true {")+"if true @{"+open(21, "}"),
		open(20, "if true {")+"} else { } if true { if true @{",
		open(20, "if true {")+"R0 = @(1);",
		open(20, "if true {")+"push@(ROADS.first, FRESH.first);",
		open(20, "if true {")+"R0 = ROADS.sum@(r: 1);",
		open(20, "if true {")+"R0 = ROADS.filter@(r: true).count;",
		open(20, "if true {")+"if isnone@(ROADS.first)",
		open(20, "if true {")+"if FRESH.first.on@(ROADS.first)",
		open(19, "if true {")+"push(@(ROADS.first), FRESH.first);",
		open(20, "if true {")+"push@",
		open(20, "if true {")+"push @;",
		open(20, "if true {")+"R0 = 1 @{",
	)
}

func TestTokens(t *testing.T) {
	wantCost(t, "R0=R1;if R0<=R7{return;}each\np\nin\nFRESH{}", 2+5+18)
	wantCost(t, "each p inFRESH{}ifR0==1{}", 18+4)
	wantCost(t, "var iff = 1; var r0 = iff; var in1 = r0; var returns = in1;", 8)
	wantCost(t, "R0 = ROADS\n.\nfilter ( r : r . lossy ) . count ;", 1+1+1+8*3)
	wantCost(t, "var filter = 1; var count = filter; var on = count; var id = on; var sum = ROADS.sum(any: any.id);", 8+1+1+1+8*3)
	wantFaultAtMark(t, api.ErrText,
		"@R8 = 1;", "@R = 1;", "@R", "R0@1 = 1;", "@ROAD", "R0 = @ROAD;", "R0 = @ROADs.count;", "R0 = ROADS@1.count;", "@A", "@_ = 1;", "var @X = 1;", "var x@Y = 1;",
		"R0@\t= 1;", "R0 = 1;@\r\n", "R0 = 1;@\x00", "R0 = 1@\xff;", "R0 = @é;", "@\"x\"", "R0 = 1 @# 2;", "R0 = 1 @~",
		"R0 = 1 @& 2;", "R0 = 1 @| 2;", "R0 = 1 @& & 2;", "R0 = 1 &&@& 2;", "R0 = 1 @&", "R0 = 1 @|",
		"x@== 1;", "R0 @== 1;", "R0 = @!= 1;", "R0 = 1 < @= 2;", "R0 = 1 <= @= 2;", "R0 = 1 @! = 2;",
	)
}

func TestWordsAreNoNames(t *testing.T) {
	for _, word := range strings.Fields("if else each in push var return true false isnone") {
		wantFaultAtMark(t, api.ErrText,
			"var @"+word+" = 1;",
			"each @"+word+" in FRESH { }",
			"R0 = ROADS.sum(@"+word+": 1);",
			"R0 = ROADS.first.@"+word+";",
			"R0 = ROADS.@"+word+";",
		)
	}
	wantFaultAtMark(t, api.ErrText, "R0 = @if;", "@in = 1;", "@else { }", "@true = false;", "@isnone(ROADS.first);")
}

func TestNoProgram(t *testing.T) {
	wantFaultAtMark(t, api.ErrText,
		"@;", "@1;", "@}", "@(", "@{ }", "return @}", "return@", "return @1;", "return; @;",
		"x@", "x @+ 1;", "x@.y = 1;", "x@(1);", "x =@", "R0@", "R0 =@", "R0 = 1@", "R0 = 1 @", "R0 = 1 \n@",
		"var@", "var @= 1;", "var @R0 = 1;", "var @1 = 1;", "var x @;", "var x = @;", "var x = 1 @var",
		"push@", "push @ROADS.first;", "push(@);", "push(1@);", "push(1, @);", "push(1, 2@;", "push(1, 2@, 3);", "push(1, 2)@",
		"if @{ }", "if true @return;", "if true { @", "if true { @else", "if true { return; @) ", "if true { }@; return;",
		"if true { } else @if true { }", "if true { } else @return;", "if true { } else { } @else { }",
		"each@", "each @in FRESH { }", "each p@.x in FRESH { }", "each p @FRESH { }", "each p in @p { }", "each p in @R0 { }", "each p in @(FRESH) { }",
		"each p in FRESH@;", "each p in FRESH @", "each p in FRESH.@count { }", "each p in FRESH.filter@{ }", "each p in FRESH.filter(p: true).@first { }", "each p in FRESH @FRESH { }",
	)
}

func TestNoExpr(t *testing.T) {
	wantFaultAtMark(t, api.ErrText,
		"R0 = ROADS@;", "R0 = (ROADS@);", "R0 = ROADS @+ 1;", "R0 = ROADS.@;", "R0 = ROADS.@size;", "R0 = ROADS.@on(R0);", "R0 = ROADS.@1;",
		"R0 = ROADS.filter(r: true)@;", "R0 = ROADS.filter@;", "R0 = ROADS.filter(@);", "R0 = ROADS.filter(r@);", "R0 = ROADS.filter(r: @);", "R0 = ROADS.filter(r: true@;", "R0 = ROADS.filter(@1: true);", "R0 = ROADS.filter(r: true@, s: true);",
		"R0 = ROADS.min@;", "R0 = ROADS.max@.rtt;", "R0 = ROADS.any@;", "R0 = ROADS.sum(@);", "R0 = ROADS.count@(r: 1);", "R0 = ROADS.first@(r: 1);",
		"R0 = FRESH.first.min@(p: 1);", "R0 = FRESH.count.filter@(p: true);", "R0 = FRESH.first.size@(1);",
		"R0 = 1 == 2 @== 3;", "R0 = 1 == 2 @!= 3;", "R0 = 1 != 2 @== 3;", "R0 = 1 < 2 @< 3;", "R0 = 1 < 2 @>= 3;", "R0 = 1 < 2 == 3 < 4 @== 5;", "R0 = 1 < 2 == 3 < 4 @> 5;",
		"R0 = 1 +@;", "R0 = @+ 1;", "R0 = @* 1;", "R0 = 1 - @* 2;", "R0 = 1 @! 2;", "R0 = 1 @2;", "R0 = 1 @x;", "R0 = 1 @= 2;", "R0 = -@;", "R0 = (@);", "R0 = (1@;", "R0 = 1@);", "R0 = 1 &&@",
		"R0 = a.@;", "R0 = a.@1;", "R0 = a.on(@);", "R0 = a.on(b@, c);", "R0 = a.on(b@;", "R0 = a.on@", "R0 = isnone@;", "R0 = isnone(@);", "R0 = isnone(a@, b);", "R0 = isnone @R0;", "R0 = @FRES", "R0 = @,", "R0 = @var;",
	)
	wantCost(t, "var a = (1 == 2) == (3 != 4); a = (1 < 2) == (3 > 4); a = 1 < 2 != true;", 8+8+6)
}

func TestTextComesFirst(t *testing.T) {
	wantFaultAtMark(t, api.ErrText,
		"y = 1; R0 = (@;", "R0 = true; R0 @", "x = y; x = z; return; @}", "var x = 1; var x = 2@", "R0 = true + y @& 1;", costing(1000001)+"@#",
	)
}

func TestNamesThatAreNotKnown(t *testing.T) {
	wantFaultAtMark(t, api.ErrName,
		"@x = 1;", "@x = y;", "R0 = @y;", "R0 = ((@y));", "R0 = -(@y + z);", "var x = @x;", "push(@r, p);", "push(ROADS.first, @p);", "if @a { }", "R0 = ROADS.sum(r: @s);", "R0 = FRESH.first.seq + @p;",
		"if true { var x = 1; } @x = 2;", "if true { var x = 1; } else { @x = 2; }", "if true { } else { var x = 1; } R0 = @x;",
		"each p in FRESH { var x = 1; } R0 = @x;", "each p in FRESH { } push(ROADS.first, @p);", "each p in FRESH.filter(q: @p.size > 1) { }", "each p in FRESH.filter(q: true) { R0 = @q.size; }",
		"R0 = ROADS.sum(r: r.rtt) + @r;", "R0 = ROADS.filter(r: true).sum(s: @r.rtt);", "R0 = ROADS.sum(r: 1) + ROADS.sum(s: @r.id);", "if @x == 1 { var x = 2; }",
		"R0 = @first;", "R0 = @rtt;", "R0 = @on.size;", "@rtt = 1;",
	)
	wantCost(t, "if true { var x = 1; } else { var x = true; } var x = ROADS.first; R0 = x.id;", 2+2+2+3+3)
	wantCost(t, "each x in FRESH { var y = x; y = x; } each x in ROADS { var y = x; }", 2+16*5+2+8*3)
}

func TestNamesThatAreKnownAlready(t *testing.T) {
	wantFaultAtMark(t, api.ErrName,
		"var x = 1; var @x = 2;", "var x = 1; var @x = y;", "var x = 1; if true { var @x = 2; }", "var x = 1; if true { } else { var @x = 2; }",
		"var x = 1; each @x in FRESH { }", "var x = 1; each @x in FRESH.filter(p: y) { }", "var r = 1; R0 = ROADS.sum(@r: 2);", "var r = 1; R0 = ROADS.filter(@r: 2).count;",
		"each p in FRESH { each @p in AGAIN { } }", "each p in FRESH { var @p = 1; }", "each p in FRESH { R0 = AGAIN.sum(@p: 1); }",
		"R0 = ROADS.sum(r: ROADS.sum(@r: 1));", "R0 = ROADS.sum(r: ROADS.filter(@r: true).count);", "if ROADS.any(r: FRESH.any(p: AGAIN.any(@p: true))) { }",
	)
	wantCost(t, "R0 = ROADS.filter(r: true).sum(r: 1) + ROADS.sum(r: 2); var r = 1;", 1+1+(2+16+16)+(2+16)+2)
	wantCost(t, "each p in FRESH.filter(p: true) { R0 = p.size; }", 2+16*2+16*4)
	wantCost(t, "var x = ROADS.sum(x: x.id);", 3+8*3)
}

func TestNamesThatAreNotSet(t *testing.T) {
	wantFaultAtMark(t, api.ErrName,
		"each p in FRESH { @p = FRESH.first; }", "each p in FRESH { @p = y; }", "each r in ROADS { @r = 1; }", "each p in FRESH { var x = 1; x = 2; if true { @p = p; } }",
	)
	wantCost(t, "each p in FRESH { var q = p; q = AGAIN.first; }", 2+16*6)
}

func TestNoPropertyOfAnything(t *testing.T) {
	wantFaultAtMark(t, api.ErrName,
		"var x = ROADS.first.@weight;", "R0 = 1.@foo;", "R0 = (1 < 2).@foo;", "R0 = FRESH.first.@on;", "R0 = 1.@on;", "R0 = ROADS.first.@count;", "R0 = ROADS.first.@first;", "R0 = ROADS.first.id.@foo;", "R0 = @y.foo;", "R0 = FRESH.first.@filter;", "if FRESH.first.@on == true { }",
	)
	for _, name := range strings.Fields("id rtt cwnd out lossy") {
		wantCost(t, "var x = ROADS.first."+name+";", 4)
		wantFaultAtMark(t, api.ErrType, "var x = @FRESH.first."+name+";", "var x = @(1)."+name+";", "var x = @true."+name+";")
	}
	for _, name := range strings.Fields("seq size") {
		wantCost(t, "var x = FRESH.first."+name+";", 4)
		wantFaultAtMark(t, api.ErrType, "var x = @ROADS.first."+name+";", "var x = @R0."+name+";", "var x = @(true)."+name+";")
	}
}

func TestTypesOfStatements(t *testing.T) {
	wantFaultAtMark(t, api.ErrType,
		"R0 = @true;", "R0 = @(true);", "R0 = @((true));", "R0 = @ROADS.first;", "R0 = @FRESH.first;", "R0 = @1 < 2;", "R0 = @ROADS.first.lossy;",
		"var x = 1; x = @true;", "var x = true; x = @1;", "var x = ROADS.first; x = @1;", "var x = ROADS.first; x = @(FRESH.first);", "var x = FRESH.first; x = @ROADS.first;", "var x = 1; if true { x = @!true; }",
		"push(@FRESH.first, 1);", "push(@FRESH.first, y);", "push(@(1), FRESH.first);", "push(ROADS.first, @ROADS.first);", "push(ROADS.first, @true);",
		"if @1 { }", "if @(1) { x = 2; }", "if @FRESH.first { }", "if @R0 + 1 { } else { }",
		"each p in FRESH { R0 = @p; }", "each r in ROADS { push(ROADS.first, @r); }", "each p in FRESH { push(@p, FRESH.first); }",
	)
	wantCost(t, "var a = 1; var b = a == 1; var c = ROADS.max(r: r.id); var d = AGAIN.min(p: p.seq); a = -a; b = !b; c = c; d = d; push(c, d); R0 = a;", 2+4+(3+8*3)+(3+16*3)+3+3+2+2+3+2)
}

func TestTypesOfExprs(t *testing.T) {
	wantFaultAtMark(t, api.ErrType,
		"R0 = 1 + @true;", "R0 = @true + y;", "R0 = @true - 1;", "R0 = 1 * @(1 < 2);", "R0 = @(true) / y;", "R0 = 1 % @FRESH.first;", "R0 = 1 + @true - y;", "R0 = 1 + 2 * @true;", "R0 = 1 + @true * y;", "R0 = (1 + 2) * (3 - @(true));",
		"var x = @true < y;", "var x = 1 <= @true;", "var x = @ROADS.first > 1;", "var x = 1 >= @ROADS.first;",
		"R0 = -@(1 < 2);", "R0 = -@true;", "R0 = --@true;", "R0 = -@!true;", "var x = !@1;", "var x = !@-1;", "var x = !@R0;",
		"var x = @1 && y;", "var x = true && @(1 + 2);", "var x = @(1 + 2) && true;", "var x = @1 + 2 || y;", "var x = true || @1;", "var x = true && true && @1 || y;", "var x = @(1) + (2) && y;",
		"var x = 1 == @true;", "var x = true != @1;", "var x = 1 == @ROADS.first;", "var x = true == @FRESH.first;", "var x = @ROADS.first == y;", "var x = @(FRESH.first) != FRESH.first;", "var x = @ROADS.first == 1;", "var x = 1 < 2 == @3;", "var x = 1 == @(2 < 3);",
		"R0 = @7.rtt;", "R0 = @(7).rtt;", "R0 = -@7.rtt;", "R0 = @ROADS.first.rtt.rtt;", "R0 = 1 + @(FRESH.first).rtt;", "R0 = @ROADS.count.size;", "R0 = @FRESH.sum(p: 1).size;", "R0 = @FRESH.min(p: 1).id.foo;",
		"var x = FRESH.first.on(@FRESH.first);", "var x = FRESH.first.on(@(1));", "var x = @ROADS.first.on(y);", "var x = @1.on(ROADS.first);", "var x = @FRESH.first.on(ROADS.first).on(y);", "var x = @(true).on(ROADS.first);",
		"var x = isnone(@1);", "var x = isnone(@(true));", "var x = isnone(@ROADS.count);", "var x = isnone(@isnone(ROADS.first));",
	)
}

func TestTypesInSets(t *testing.T) {
	wantFaultAtMark(t, api.ErrType,
		"R0 = ROADS.filter(r: @r.rtt).count;", "R0 = ROADS.filter(r: @r).count;", "R0 = ROADS.filter(r: @(1)).filter(r: y).count;", "each r in ROADS.filter(r: @1) { x = 1; }",
		"R0 = ROADS.sum(r: @r.lossy);", "R0 = ROADS.sum(r: @r);", "var x = ROADS.min(r: @true);", "var x = ROADS.max(r: @(r.lossy));", "var x = ROADS.any(r: @r);", "var x = ROADS.any(r: @r.id);",
		"R0 = @ROADS.any(r: true);", "R0 = @ROADS.min(r: 1);", "if @ROADS.sum(r: 1) { }", "if @ROADS.count { }", "push(@FRESH.min(p: 1), y);", "push(ROADS.max(r: 1), @ROADS.max(r: 1));",
		"R0 = ROADS.sum(r: @r.size);", "R0 = FRESH.sum(p: @p.rtt);", "R0 = AGAIN.sum(p: @p.id);", "each p in AGAIN { R0 = @p.out; }", "each r in ROADS { R0 = @r.seq; }",
	)
}

func TestTheFirstOneMetIsTold(t *testing.T) {
	wantFaultAtMark(t, api.ErrName,
		"var x = @y + true;", "R0 = 1 + @y + true;", "R0 = 1 + (@y + true) * true;", "push(@y, 1);", "if @y { R0 = true; }", "var x = 1; x = @y; x = true;", "R0 = true.@foo;", "R0 = -@y.rtt;", "var x = true; var @x = 1 + true;", "var x = isnone(@y.rtt);",
	)
	wantFaultAtMark(t, api.ErrType,
		"R0 = @true; y = 1;", "R0 = @true + y;", "R0 = 1 + @true + y;", "push(@1, y);", "if @1 { y = 1; }", "R0 = (@true + 1).foo;", "R0 = @true.rtt.foo;", "var x = 1; x = @true; var x = 1;", "var x = @1.on(y);", "R0 = ROADS.filter(r: @1).sum(r: y);", "each p in FRESH.filter(q: @1) { y = 1; }",
	)
}

func TestErrorsAnswerNothingElse(t *testing.T) {
	for _, src := range everyPrefix("R0 = ROADS.filter(r: r.lossy).sum(r: y) + 1; if true { push(ROADS.first, p); } else { }") {
		cost, errno, at := lang.Check(src)
		if errno != api.OK && cost != 0 {
			t.Errorf("Check(%q) = %d, %d, %d: a cost beside an error", src, cost, errno, at)
		}
		if at < 0 || at > len(src) || errno == api.OK && at != 0 {
			t.Errorf("Check(%q) = %d, %d, %d: no such place", src, cost, errno, at)
		}
	}
}

func everyPrefix(src string) []string {
	var list []string
	for i := range len(src) + 1 {
		list = append(list, src[:i])
	}
	return list
}

// Texts that lead into every corner at once: deep, long and one-sided.
func TestEveryTextEnds(t *testing.T) {
	for _, piece := range []string{"-", "!", "(", "{", "1+", "1.", "x.y", "R0=", "if true{", "ROADS.filter(r:", "isnone(", "each p in ", "&&", "\x00", "push(", ".on("} {
		for _, ahead := range []string{"", "R0 = ", "R0 = 1", "var x = ROADS."} {
			src := ahead + strings.Repeat(piece, 4000)
			lang.Check(src)
			lang.Check(src[:4000])
		}
	}
	minuses := strings.Repeat("-", 3993)
	wantCost(t, "R0 = "+minuses+"1;", 2+len(minuses))
	wantFault(t, "R0 = "+strings.Repeat("!", 3000)+"1;", api.ErrType, 3005)
	wantCost(t, "R0="+strings.Repeat("1+", 1997)+"1;", 1+1998+1997)
	wantFault(t, "R0 = 1"+strings.Repeat(".id", 1000)+";", api.ErrType, 5)
}

// What Check answers hangs on the text alone: not on calls before it or beside it.
func TestAnswersHangOnTheTextAlone(t *testing.T) {
	type answer struct {
		cost  int
		errno api.Errno
		at    int
	}
	ask := func(src string) answer {
		cost, errno, at := lang.Check(src)
		return answer{cost, errno, at}
	}
	texts := map[string]answer{
		"var x = 1;":                 {2, api.OK, 0},
		"x = 1;":                     {0, api.ErrName, 0},
		"var x = true; R0 = x;":      {0, api.ErrType, 19},
		"R0 = (1":                    {0, api.ErrText, 7},
		"R0 = 1)":                    {0, api.ErrText, 6},
		"each p in FRESH { }":        {18, api.OK, 0},
		costing(api.MaxCost + 1):     {0, api.ErrCost, 0},
		strings.Repeat("return;", 9): {9, api.OK, 0},
	}
	var group sync.WaitGroup
	for range 8 {
		group.Go(func() {
			for range 20 {
				for src, want := range texts {
					if got := ask(src); got != want {
						t.Errorf("Check(%.40q) = %v, want %v", src, got, want)
					}
				}
			}
		})
	}
	group.Wait()
}
