package lang

import (
	"reflect"
	"testing"
)

// Every sort of statement and of expr embeds a part, and is asked for its place
// and its price alike.
func TestPartsAreAskedAlike(t *testing.T) {
	const src = "var x = 1; x = 2; R1 = 3; push(ROADS.first, FRESH.first); return; if true { } each p in FRESH { }"
	program, wrong := parse(src)
	if wrong != (fault{}) {
		t.Fatal(wrong)
	}
	want := []part{{0, 2}, {11, 2}, {18, 2}, {26, 5}, {58, 1}, {66, 2}, {78, 18}}
	if len(program) != len(want) {
		t.Fatalf("%d statements, want %d", len(program), len(want))
	}
	for i, n := range program {
		if n.place() != want[i].at || n.price() != want[i].cost {
			t.Errorf("%T: place %d, price %d, want %v", n, n.place(), n.price(), want[i])
		}
		wantEmbedded(t, n, reflect.TypeFor[part]())
	}
}

func TestExprsAreAskedAlike(t *testing.T) {
	for src, want := range map[string]value{
		"1":                           {part{5, 1}, kindNumber},
		"true":                        {part{5, 1}, kindTruth},
		"R1":                          {part{5, 1}, kindNumber},
		"x":                           {part{5, 1}, kindNone},
		"isnone(x)":                   {part{5, 2}, kindTruth},
		"-1":                          {part{5, 2}, kindNumber},
		"!true":                       {part{5, 2}, kindTruth},
		"(1) + 2":                     {part{5, 3}, kindNumber},
		"1 < 2":                       {part{5, 3}, kindTruth},
		"x.rtt":                       {part{5, 2}, kindNumber},
		"(x).lossy":                   {part{5, 2}, kindTruth},
		"x.on(y)":                     {part{5, 3}, kindTruth},
		"ROADS.first":                 {part{5, 2}, kindRoad},
		"((FRESH.first))":             {part{5, 2}, kindPacket},
		"AGAIN.filter(p: true).count": {part{5, 34}, kindNumber},
		"AGAIN.min(p: 1)":             {part{5, 34}, kindPacket},
		"ROADS.any(r: true)":          {part{5, 18}, kindTruth},
	} {
		program, wrong := parse("R0 = " + src + ";")
		if wrong != (fault{}) {
			t.Fatal(src, wrong)
		}
		e := program[0].(*storing).from
		if e.place() != want.at || e.price() != want.cost || e.sort() != want.kind {
			t.Errorf("%s: place %d, price %d, kind %d, want %v", src, e.place(), e.price(), e.sort(), want)
		}
		wantEmbedded(t, e, reflect.TypeFor[value]())
	}
}

func wantEmbedded(t *testing.T, n node, embedded reflect.Type) {
	t.Helper()
	first := reflect.TypeOf(n).Elem().Field(0)
	if !first.Anonymous || first.Type != embedded {
		t.Errorf("%T does not embed %v", n, embedded)
	}
}
