package vm_test

import (
	"math"
	"strings"
	"testing"

	"helm/api"
	"helm/op"
)

// wantCode holds code that was laid down by hand to what a run of it with the
// busy view does.
func wantCode(t *testing.T, code string, regs [8]int, want string) {
	t.Helper()
	c := load(t, code)
	if got := tell(c.Run(busy, regs, c.Need())); got != want {
		t.Errorf("%x with %v does %q, want %q", code, regs, got, want)
	}
}

// Instructions that make one number, in slot 0, of what slots 1 and 2 hold.
func TestInstructions(t *testing.T) {
	for _, c := range []struct {
		op                  op.Op
		first, second, want int
	}{
		{op.Copy, 42, 0, 42}, {op.Minus, 42, 0, -42}, {op.Minus, math.MinInt, 0, math.MinInt},
		{op.Not, 0, 0, 1}, {op.Not, 1, 0, 0}, {op.Not, -5, 0, 0},
		{op.Add, 2, 3, 5}, {op.Sub, 2, 3, -1}, {op.Mul, 2, 3, 6}, {op.Div, 7, 3, 2}, {op.Rem, 7, 3, 1}, {op.Div, 7, 0, 0}, {op.Rem, 7, 0, 0}, {op.Div, math.MinInt, -1, math.MinInt}, {op.Rem, math.MinInt, -1, 0},
		{op.Less, 2, 3, 1}, {op.Less, 3, 3, 0}, {op.AtMost, 3, 3, 1}, {op.AtMost, 4, 3, 0}, {op.Equal, 3, 3, 1}, {op.Equal, 2, 3, 0}, {op.Differ, 2, 3, 1}, {op.Differ, 3, 3, 0},
		{op.And, 1, 1, 1}, {op.And, 1, 0, 0}, {op.Or, 0, 1, 1}, {op.Or, 0, 0, 0},
		{op.Count, 0, 0, 0}, {op.Count, 0b1011, 0, 3}, {op.Count, -1, 0, 64},
		{op.First, 0, 0, op.None}, {op.First, 0b1100, 0, 2}, {op.First, 1, 0, 0}, {op.First, math.MinInt, 0, 63},
		{op.IsNone, op.None, 0, 1}, {op.IsNone, 0, 0, 0}, {op.IsNone, 16, 0, 0},
		{op.Id, 0, 0, 3}, {op.Id, 3, 0, 1}, {op.Rtt, 1, 0, 10}, {op.Cwnd, 3, 0, 8}, {op.Out, 0, 0, 2}, {op.Lossy, 1, 0, 1}, {op.Lossy, 2, 0, 0},
		{op.Seq, 0, 0, 20}, {op.Seq, 3, 0, 23}, {op.Seq, 16, 0, 11}, {op.Seq, 17, 0, 9}, {op.Size, 1, 0, 9}, {op.Size, 17, 0, 7},
		{op.On, 16, 0, 1}, {op.On, 16, 1, 1}, {op.On, 16, 2, 0}, {op.On, 17, 2, 1}, {op.On, 17, 0, 0}, {op.On, 0, 0, 0},
	} {
		numbers := []int{0, 1, 2}
		if shape, _ := op.Shape(c.op); len(shape) == 2 {
			numbers = []int{0, 1}
		}
		wantCode(t, instr(c.op, numbers...)+instr(op.Number, 1, 0)+instr(op.Number, 2, 0)+end, [8]int{99, c.first, c.second}, tell(api.Result{Regs: [8]int{c.want}}))
	}
}

// Indexes that the view does not have are NONE.
func TestIndexesOfNothing(t *testing.T) {
	wild := []int{op.None, -2, 5, 8, 15, 18, 31, 32, 63, 64, 1 << 32, 1<<32 + 1, math.MaxInt, math.MinInt, math.MinInt + 1}
	for _, index := range append(wild, 4, 16, 17) {
		for o := op.Id; o <= op.Lossy; o++ {
			wantCode(t, instr(o, 0, 1)+instr(op.Number, 1, 0)+end, [8]int{99, index}, "")
		}
		wantCode(t, instr(op.On, 0, 2, 1)+instr(op.Number, 1, 0)+end, [8]int{99, index, 16}, "R2=16")
		wantCode(t, instr(op.Push, 1, 2)+instr(op.Number, 1, 0)+end, [8]int{1: index, 2: 0}, "")
	}
	for _, index := range append(wild, 4) {
		wantCode(t, instr(op.Seq, 0, 1)+instr(op.Size, 2, 1)+instr(op.Number, 1, 0)+end, [8]int{99, index, 99}, "")
		wantCode(t, instr(op.On, 0, 1, 2)+instr(op.Number, 1, 0)+end, [8]int{99, index, 0}, "")
		wantCode(t, instr(op.Push, 2, 1)+instr(op.Number, 1, 0)+end, [8]int{1: index, 2: 0}, "")
	}
	wantCode(t, instr(op.Push, 0, 1)+instr(op.Push, 2, 3)+end, [8]int{3, 17, 0, 3}, "1<9 3<23 R0=3 R1=17 R3=3")
}

func TestSets(t *testing.T) {
	wantCode(t, instr(op.All, 0, op.Roads)+instr(op.All, 1, op.Fresh)+instr(op.All, 2, op.Again)+end, [8]int{9, 9, 9}, "R0=15 R1=15 R2=196608")
	wantCode(t, instr(op.Keep, 0, 1)+end, [8]int{1, 3}, "R0=9 R1=3")
	wantCode(t, instr(op.Keep, 0, 1)+end, [8]int{9, 3}, "R0=9 R1=3")
	wantCode(t, instr(op.Keep, 0, 1)+end, [8]int{2, 64}, "R0=3 R1=64")
	wantCode(t, instr(op.Keep, 0, 1)+end, [8]int{0, -1}, "R0=-9223372036854775808 R1=-1")
	wantCode(t, instr(op.Keep, 0, 0)+end, [8]int{2}, "R0=6")
}

// The best one stands in slot 0, its measure in slot 1.
func TestBestOnes(t *testing.T) {
	for _, c := range []struct {
		op                         op.Op
		best, measure, one, second int
		want                       string
	}{
		{op.Least, op.None, -9, 2, 5, "R0=2 R1=5"}, {op.Least, 1, 6, 2, 5, "R0=2 R1=5"}, {op.Least, 1, 5, 2, 5, "R0=1 R1=5"}, {op.Least, 1, 4, 2, 5, "R0=1 R1=4"},
		{op.Most, op.None, 99, 2, 5, "R0=2 R1=5"}, {op.Most, 1, 4, 2, 5, "R0=2 R1=5"}, {op.Most, 1, 5, 2, 5, "R0=1 R1=5"}, {op.Most, 1, 6, 2, 5, "R0=1 R1=6"},
		{op.Least, 1, math.MaxInt, 2, math.MinInt, "R0=2 R1=-9223372036854775808"}, {op.Most, 1, math.MinInt, 2, math.MaxInt, "R0=2 R1=9223372036854775807"},
	} {
		code := instr(c.op, 0, 1, 2, 3) + instr(op.Number, 2, 0) + instr(op.Number, 3, 0) + end
		wantCode(t, code, [8]int{c.best, c.measure, c.one, c.second}, c.want)
	}
	wantCode(t, instr(op.Least, 0, 1, 1, 0)+end, [8]int{3, 7}, "R0=7 R1=3")
	wantCode(t, instr(op.Most, 0, 1, 1, 0)+end, [8]int{7, 3}, "R0=3 R1=7")
}

func TestChoices(t *testing.T) {
	count := func(slot int) string { return instr(op.Add, slot, slot, 7) }
	for regs, want := range map[[8]int]string{
		{0: 0, 7: 1}:  "R2=1 R3=1 R7=1",
		{0: 1, 7: 1}:  "R0=1 R1=1 R3=1 R7=1",
		{0: -4, 7: 1}: "R0=-4 R1=1 R3=1 R7=1",
	} {
		wantCode(t, choose+count(1)+other+count(2)+end+count(3)+end, regs, want)
	}
	wantCode(t, choose+count(1)+end+count(3)+end, [8]int{7: 1}, "R3=1 R7=1")
	wantCode(t, choose+other+end+count(3)+end, [8]int{5, 7: 1}, "R0=5 R3=1 R7=1")
	wantCode(t, choose+ret+other+count(2)+end+count(3)+end, [8]int{5, 7: 1}, "R0=5 R7=1")
}

// digit writes the index in a slot behind those that R0 has.
func digit(slot int) string {
	return instr(op.Mul, 0, 0, 7) + instr(op.Add, 0, 0, slot)
}

// R7 is 100, for indexes of two digits.
func TestLoops(t *testing.T) {
	loop := func(list, one, set int) string { return instr(op.Loop, list, one, set) }
	for _, c := range []struct {
		code string
		set  int
		want string
	}{
		{loop(op.Roads, 2, 1) + digit(2) + end, -1, "R0=10203 R1=-1 R2=3"},
		{loop(op.Roads, 2, 1) + digit(2) + end, 0b1010, "R0=103 R1=10 R2=3"},
		{loop(op.Roads, 2, 1) + digit(2) + end, 0, ""},
		{loop(op.Roads, 2, 1) + digit(2) + end, 0b110000, "R1=48"},
		{loop(op.Fresh, 2, 1) + digit(2) + end, -1 << 2, "R0=203 R1=-4 R2=3"},
		{loop(op.Again, 2, 1) + digit(2) + end, -1, "R0=1617 R1=-1 R2=17"},
		{loop(op.Again, 2, 1) + digit(2) + end, 0xffff, "R1=65535"},
		{loop(op.Roads, 1, 1) + digit(1) + end, -1, "R0=10203 R1=3"},
		{loop(op.Roads, 2, 1) + instr(op.Number, 1, 0) + digit(2) + end, -1, "R0=10203 R2=3"},
		{loop(op.Roads, 2, 1) + digit(2) + instr(op.Number, 2, 0) + end, -1, "R0=10203 R1=-1"},
		{loop(op.Roads, 2, 1) + loop(op.Roads, 2, 1) + end + digit(2) + end, 0b11, "R0=101 R1=3 R2=1"},
		{loop(op.Roads, 2, 1) + loop(op.Again, 3, 1) + digit(3) + end + end, 1<<16 | 0b101, "R0=1616 R1=65541 R2=2 R3=16"},
		{loop(op.Roads, 2, 1) + instr(op.Skip, 2) + digit(2) + end, -1, "R0=10203 R1=-1 R2=3"},
		{loop(op.Roads, 2, 1) + digit(2) + instr(op.Skip, 4) + ret + end, -1, "R0=10203 R1=-1 R2=3"},
		{loop(op.Roads, 2, 1) + digit(2) + instr(op.If, 2) + ret + end + end, -1, "R0=1 R1=-1 R2=1"},
		{loop(op.Roads, 2, 1) + loop(op.Roads, 3, 1) + instr(op.Skip, 2) + digit(3) + end + end, 0b11, "R0=1 R1=3 R2=1 R3=1"},
	} {
		wantCode(t, c.code+end, [8]int{1: c.set, 7: 100}, strings.TrimSpace(c.want+" R7=100"))
	}
}

// Eight loops in one another, through all that there is.
func TestDeepLoops(t *testing.T) {
	code := ""
	for i := range 8 {
		code += instr(op.Loop, op.Roads, 8+i, 1)
	}
	wantCode(t, code+instr(op.Add, 0, 0, 7)+strings.Repeat(end, 9), [8]int{1: -1, 7: 1}, "R0=65536 R1=-1 R7=1")
}

// A slot that nothing was written to is 0, in every run anew.
func TestSlotsAreFresh(t *testing.T) {
	last := op.MaxSlots - 1
	code := instr(op.Add, 0, 0, 8) + instr(op.Add, 1, 1, last) + instr(op.Number, 8, 5) + instr(op.Number, last, 6) + end
	c := load(t, code)
	for range 3 {
		if got := tell(c.Run(busy, [8]int{1, 2}, c.Need())); got != "R0=1 R1=2" {
			t.Errorf("slots that nothing was written to: %q", got)
		}
	}
}
