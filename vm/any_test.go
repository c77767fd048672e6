package vm_test

import (
	"math"
	"math/rand/v2"
	"reflect"
	"slices"
	"testing"

	"helm/api"
	"helm/op"
	"helm/vm"
)

// change changes a few bytes of code: they become others, go, or come in.
func change(random *rand.Rand, code string) string {
	b := []byte(code)
	for range 1 + random.IntN(2) {
		i, with := random.IntN(len(b)+1), byte(random.IntN(256))
		if random.IntN(3) > 0 {
			with = byte(random.IntN(int(op.Push) + 1))
		}
		switch {
		case i == len(b) || random.IntN(8) == 0:
			b = slices.Insert(b, i, with)
		case random.IntN(8) == 0:
			b = slices.Delete(b, i, i+1)
		default:
			b[i] = with
		}
	}
	return string(b)
}

// A thrower lays down code at random that Load takes.
type thrower struct {
	random *rand.Rand
	code   string
	loops  int // that are open
}

func (d *thrower) number() int {
	switch d.random.IntN(6) {
	case 0:
		return []int{-1, math.MinInt, math.MaxInt, 0xffff, 0xffff << 16}[d.random.IntN(5)]
	case 1:
		return int(d.random.Uint64()) >> d.random.IntN(64)
	case 2:
		return d.random.IntN(35) - 1
	}
	return d.random.IntN(3) + 16*d.random.IntN(2)
}

func (d *thrower) numbers(shape string) []int {
	var list []int
	for _, letter := range shape {
		switch letter {
		case op.Slot:
			list = append(list, d.random.IntN(11))
		case op.List:
			list = append(list, d.random.IntN(op.Lists))
		default:
			list = append(list, d.number())
		}
	}
	return list
}

// block lays down a block, with its End.
func (d *thrower) block(depth int) {
	for range d.random.IntN(9) {
		d.one(depth)
	}
	d.code += end
}

func (d *thrower) one(depth int) {
	o := op.Op(d.random.IntN(int(op.Push) + 1))
	if d.random.IntN(4) == 0 {
		o = op.Loop
	}
	switch {
	case o == op.End, o == op.Else, o == op.Skip && d.loops == 0, (o == op.If || o == op.Loop) && depth == 0, o == op.Return && d.random.IntN(4) > 0:
		o = op.Push
	}
	shape, _ := op.Shape(o)
	d.code += instr(o, d.numbers(shape)...)
	switch o {
	case op.If:
		for range d.random.IntN(4) {
			d.one(depth - 1)
		}
		if d.random.IntN(2) == 0 {
			d.code += other
		}
		d.block(depth - 1)
	case op.Loop:
		d.loops++
		d.block(depth - 1)
		d.loops--
	}
}

// someViews has the full view often: with it there is most to do.
func someViews() []api.View {
	return append(views(), full(), full(), full(), full(), full())
}

// wantSafe holds a run of code, whoever made it, to the plain machine: it takes
// as many steps as that one, no more than the need, and it does the same.
func wantSafe(t *testing.T, code string, c *vm.Code, v api.View, regs [8]int) api.Result {
	t.Helper()
	want, steps := plainRun(code, v, regs)
	got := c.Run(v, regs, c.Need())
	if steps > c.Need() || !reflect.DeepEqual(got, want) {
		t.Fatalf("%x with %+v %v: %+v\nwant %+v in %d steps, need %d", code, v, regs, got, want, steps, c.Need())
	}
	for _, a := range got.Actions {
		isRoad := slices.ContainsFunc(v.Roads, func(r api.Road) bool { return r.Id == a.Road })
		isPacket := slices.ContainsFunc(slices.Concat(v.Fresh, v.Again), func(p api.Packet) bool { return p.Seq == a.Seq })
		if !isRoad || !isPacket {
			t.Fatalf("%x pushed %v", code, a)
		}
	}
	if want.Status == api.Done {
		wantWrong(t, c, v, regs, steps-1, api.Starved)
		if r := c.Run(v, regs, steps); !reflect.DeepEqual(r, want) {
			t.Fatalf("%x with the fuel %d: %+v, want %+v", code, steps, r, want)
		}
	}
	return got
}

// seen counts how runs ended, so that it is plain whether they tested anything.
type seen struct {
	runs, steered, overflown int
}

func (s *seen) count(r api.Result) {
	s.runs++
	s.steered += min(1, len(r.Actions))
	s.overflown += int(r.Status)
}

func TestThrownCode(t *testing.T) {
	t.Parallel()
	d := thrower{random: rand.New(rand.NewPCG(1, 2))}
	all, counts := someViews(), seen{}
	for range 40000 {
		d.code = ""
		d.block(4)
		c := load(t, d.code)
		regs := [8]int{}
		for i := range regs {
			regs[i] = d.number()
		}
		counts.count(wantSafe(t, d.code, c, all[d.random.IntN(len(all))], regs))
	}
	if counts.steered < 1000 || counts.overflown < 50 {
		t.Errorf("of what was thrown: %+v", counts)
	}
}

// Code that nobody compiled is refused, or it is safe to run.
func TestChangedCode(t *testing.T) {
	t.Parallel()
	d := thrower{random: rand.New(rand.NewPCG(3, 4))}
	all, counts, refused := someViews(), seen{}, 0
	for _, code := range codes(t) {
		for range 2000 {
			code := change(d.random, code)
			c, errno := vm.Load(code)
			if errno == api.ErrCode && c == nil {
				refused++
				continue
			}
			if errno != api.OK || c == nil {
				t.Fatalf("Load(%x) = %v, %d", code, c, errno)
			}
			if c.Need() < 100000 {
				counts.count(wantSafe(t, code, c, all[d.random.IntN(len(all))], [8]int{d.number(), d.number(), d.number()}))
			}
		}
	}
	if refused < 5000 || counts.runs < 5000 || counts.steered < 500 {
		t.Errorf("of the changed codes %d were refused, the others: %+v", refused, counts)
	}
}
