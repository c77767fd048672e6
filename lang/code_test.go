package lang

import (
	"testing"

	"helm/op"
)

// Instructions with no number, some, and many go through the one function.
func TestLayTakesAnyNumberOfNumbers(t *testing.T) {
	c := &coder{}
	c.lay(op.Return)
	c.lay(op.If, 3)
	c.lay(op.Number, 8, -1)
	c.lay(op.Add, 8, 9, 64)
	c.lay(op.Least, 1, 2, 3, 4)
	want := string([]byte{byte(op.Return), byte(op.If), 6, byte(op.Number), 16, 1, byte(op.Add), 16, 18, 0x80, 1, byte(op.Least), 2, 4, 6, 8})
	if string(c.code) != want {
		t.Errorf("laid down: %x, want %x", c.code, want)
	}
}

// Slots are free again behind the statement or block that held them.
func TestSlotsAreFreedAgain(t *testing.T) {
	for src, want := range map[string]int{
		"R0 = 1 + 2 * (3 + 4 * 5);":                            op.Registers,
		"push(ROADS.min(r: r.rtt + 1), FRESH.first);":          op.Registers,
		"if R0 == 1 { var x = 1; } else { var y = true; }":     op.Registers,
		"each p in FRESH.filter(q: q.size > 1) { var x = p; }": op.Registers,
		"var x = ROADS.max(r: FRESH.sum(p: p.size * r.id));":   op.Registers + 1,
		"var x = ROADS.first; var y = x; x = y; R0 = y.id;":    op.Registers + 2,
		"var x = FRESH.any(p: p.on(ROADS.first)); x = !x;":     op.Registers + 1,
	} {
		program, wrong := checked(src)
		if wrong != (fault{}) {
			t.Fatal(src, wrong)
		}
		c := &coder{free: op.Registers}
		for _, s := range program {
			s.lay(c)
		}
		if c.free != want {
			t.Errorf("%q holds the slots below %d, want %d", src, c.free, want)
		}
	}
}
