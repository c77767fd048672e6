package op_test

import (
	"math"
	"math/rand/v2"
	"testing"

	"helm/api"
	"helm/op"
)

func TestNumbersAreReadAsTheyWereWritten(t *testing.T) {
	sizes := map[int]int{
		0: 1, -1: 1, 63: 1, -64: 1, 64: 2, -65: 2, 8191: 2, -8192: 2, 8192: 3,
		1<<55 - 1: 8, 1<<62 - 1: 9, -1 << 62: 9, 1 << 62: 10,
		math.MaxInt: 10, math.MinInt: 10,
	}
	for n, want := range sizes {
		if got := len(op.Append(nil, n)); got != want {
			t.Errorf("%d is written in %d bytes, want %d", n, got, want)
		}
		wantRead(t, n)
	}
	random := rand.New(rand.NewPCG(1, 2))
	for range 20000 {
		wantRead(t, int(random.Uint64())>>random.IntN(64))
	}
}

// wantRead holds Read to what Append wrote: behind other bytes, ahead of
// others, and not if it is cut short.
func wantRead(t *testing.T, n int) {
	t.Helper()
	code := string(append(op.Append([]byte("ab"), n), 0xff, 0xff))
	end := len(code) - 2
	if got, size := op.Read(code, 2); got != n || size != end-2 {
		t.Errorf("Read of %x = %d, %d, want %d, %d", code[2:], got, size, n, end-2)
	}
	for cut := 2; cut < end; cut++ {
		if got, size := op.Read(code[:cut], 2); got != 0 || size != 0 {
			t.Errorf("Read of %x = %d, %d, want nothing", code[2:cut], got, size)
		}
	}
}

func TestWhatIsNoNumber(t *testing.T) {
	nine := "\xff\xff\xff\xff\xff\xff\xff\xff\xff"
	for _, code := range []string{"", "\x80", nine, nine + "\x02", nine + "\x7f", nine + "\x80", nine + "\xff\x01", nine + "\x81\x00"} {
		if n, size := op.Read(code, 0); n != 0 || size != 0 {
			t.Errorf("Read of %x = %d, %d, want nothing", code, n, size)
		}
	}
	if n, size := op.Read(nine+"\x01", 0); n != math.MinInt || size != 10 {
		t.Errorf("the least number: %d, %d", n, size)
	}
}

func TestOutcomes(t *testing.T) {
	const least, most = math.MinInt, math.MaxInt
	for _, c := range []struct {
		o                 op.Op
		left, right, want int
	}{
		{op.Add, 2, 3, 5}, {op.Add, most, 1, least}, {op.Add, least, -1, most},
		{op.Sub, 2, 3, -1}, {op.Sub, least, 1, most}, {op.Sub, 0, least, least},
		{op.Mul, -2, 3, -6}, {op.Mul, most, 2, -2}, {op.Mul, least, -1, least},
		{op.Div, 7, 2, 3}, {op.Div, -7, 2, -3}, {op.Div, 7, -2, -3}, {op.Div, -7, -2, 3}, {op.Div, 5, 0, 0}, {op.Div, least, 0, 0}, {op.Div, least, -1, least}, {op.Div, 0, 0, 0},
		{op.Rem, 7, 2, 1}, {op.Rem, -7, 2, -1}, {op.Rem, 7, -2, 1}, {op.Rem, -7, -2, -1}, {op.Rem, 5, 0, 0}, {op.Rem, least, -1, 0}, {op.Rem, least, 0, 0},
		{op.Less, 1, 2, 1}, {op.Less, 2, 2, 0}, {op.Less, 3, 2, 0}, {op.Less, least, most, 1},
		{op.AtMost, 1, 2, 1}, {op.AtMost, 2, 2, 1}, {op.AtMost, 3, 2, 0}, {op.AtMost, most, least, 0},
		{op.Equal, 2, 2, 1}, {op.Equal, 2, 3, 0}, {op.Differ, 2, 2, 0}, {op.Differ, 2, 3, 1},
		{op.And, 1, 1, 1}, {op.And, 1, 0, 0}, {op.And, 0, 1, 0}, {op.And, 0, 0, 0},
		{op.Or, 1, 1, 1}, {op.Or, 1, 0, 1}, {op.Or, 0, 1, 1}, {op.Or, 0, 0, 0},
		{op.Push, 1, 1, 0}, {op.Op(200), 1, 1, 0},
	} {
		if got := op.Outcome(c.o, c.left, c.right); got != c.want {
			t.Errorf("Outcome(%d, %d, %d) = %d, want %d", c.o, c.left, c.right, got, c.want)
		}
	}
}

func TestEveryInstructionHasAShape(t *testing.T) {
	for o := range 256 {
		shape, isOp := op.Shape(op.Op(o))
		if isOp != (op.Op(o) <= op.Push) || !isOp && shape != "" || len(shape) > 4 {
			t.Errorf("Shape(%d) = %q, %t", o, shape, isOp)
		}
	}
}

func TestSizesOfLists(t *testing.T) {
	for list, want := range map[int]int{op.Roads: api.MaxRoads, op.Fresh: api.MaxQueue, op.Again: api.MaxQueue} {
		if got := op.ListSize(list); got != want {
			t.Errorf("ListSize(%d) = %d, want %d", list, got, want)
		}
	}
}
