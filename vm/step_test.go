package vm

import (
	"slices"
	"testing"

	"helm/op"
)

func lay(code []byte, o op.Op, numbers ...int) []byte {
	code = append(code, byte(o))
	for _, n := range numbers {
		code = op.Append(code, n)
	}
	return code
}

// Steps know where they lead, and no slot is used that there is not.
func TestWhereStepsLead(t *testing.T) {
	var code []byte
	code = lay(code, op.If, 3)                 // 0
	code = lay(code, op.Loop, op.Fresh, 20, 1) // 1
	code = lay(code, op.Skip, 2)               // 2
	code = lay(code, op.Loop, op.Roads, 9, 9)  // 3
	code = lay(code, op.Skip, 9)               // 4
	code = lay(code, op.End)                   // 5
	code = lay(code, op.Skip, 2)               // 6
	code = lay(code, op.End)                   // 7
	code = lay(code, op.Else)                  // 8
	code = lay(code, op.If, 5)                 // 9
	code = lay(code, op.Copy, 5, 31)           // 10
	code = lay(code, op.End)                   // no step
	code = lay(code, op.End)                   // no step
	code = lay(code, op.End)                   // 11
	want := []step{
		{op: op.If, numbers: [4]int{3}, to: 9},
		{op: op.Loop, numbers: [4]int{op.Fresh, 20, 1}, to: 8},
		{op: op.Skip, numbers: [4]int{2}, to: 1},
		{op: op.Loop, numbers: [4]int{op.Roads, 9, 9}, depth: 1, to: 6},
		{op: op.Skip, numbers: [4]int{9}, to: 3},
		{op: op.End, to: 3},
		{op: op.Skip, numbers: [4]int{2}, to: 1},
		{op: op.End, to: 1},
		{op: op.Else, to: 11},
		{op: op.If, numbers: [4]int{5}, to: 11},
		{op: op.Copy, numbers: [4]int{5, 31}},
		{op: op.Return},
	}
	c, _ := Load(string(code))
	if c == nil || !slices.Equal(c.steps, want) {
		t.Fatalf("steps %+v", c)
	}
	if c.slots != 32 {
		t.Errorf("%d slots, want 32", c.slots)
	}
}

func TestAnElseAtOnce(t *testing.T) {
	code := lay(lay(lay(lay(lay(nil, op.If, 0), op.Else), op.Return), op.End), op.End)
	c, _ := Load(string(code))
	if c == nil || len(c.steps) != 4 || c.steps[0].to != 2 || c.steps[1].to != 3 {
		t.Errorf("steps %+v", c)
	}
}

func TestRegistersAreAlwaysThere(t *testing.T) {
	if c, _ := Load(string(lay(nil, op.End))); c == nil || c.slots != op.Registers {
		t.Errorf("the slots of no instruction: %+v", c)
	}
}
