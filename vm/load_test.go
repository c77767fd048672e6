package vm_test

import (
	"math"
	"math/rand/v2"
	"strings"
	"sync"
	"testing"

	"helm/api"
	"helm/lang"
	"helm/op"
	"helm/vm"
)

// instr is the code of one instruction.
func instr(o op.Op, numbers ...int) string {
	code := []byte{byte(o)}
	for _, n := range numbers {
		code = op.Append(code, n)
	}
	return string(code)
}

var (
	end      = instr(op.End)
	ret      = instr(op.Return)
	other    = instr(op.Else)
	choose   = instr(op.If, 0)
	skip     = instr(op.Skip, 0)
	add      = instr(op.Add, 0, 0, 0)
	roads    = instr(op.Loop, op.Roads, 8, 8)
	fresh    = instr(op.Loop, op.Fresh, 8, 8)
	again    = instr(op.Loop, op.Again, 8, 8)
	allSlots = op.MaxSlots - 1
)

func wantNeed(t *testing.T, code string, want int) {
	t.Helper()
	c, errno := vm.Load(code)
	if c == nil || errno != api.OK {
		t.Errorf("Load(%.60x) = %v, %d, want OK", code, c, errno)
		return
	}
	if c.Need() != want {
		t.Errorf("%.60x needs %d, want %d", code, c.Need(), want)
	}
}

func wantRefused(t *testing.T, code string) {
	t.Helper()
	if c, errno := vm.Load(code); c != nil || errno != api.ErrCode {
		t.Errorf("Load(%.60x) = %v, %d, want ErrCode", code, c, errno)
	}
}

func TestNeed(t *testing.T) {
	wantNeed(t, end, 1)
	wantNeed(t, ret+end, 2)
	wantNeed(t, add+add+end, 3)
	wantNeed(t, choose+end+end, 2)
	wantNeed(t, choose+add+add+end+end, 4)
	wantNeed(t, choose+add+other+end+end, 4)
	wantNeed(t, choose+other+add+end+end, 3)
	wantNeed(t, choose+add+other+add+add+add+end+end, 5)
	wantNeed(t, choose+add+add+add+other+add+end+add+end, 7)
	wantNeed(t, choose+choose+add+end+other+choose+other+add+end+end+end, 5)
	wantNeed(t, roads+end+end, 1+8+1)
	wantNeed(t, fresh+end+end, 1+16+1)
	wantNeed(t, again+add+end+end, 1+16*2+1)
	wantNeed(t, roads+skip+add+end+end, 1+8*3+1)
	wantNeed(t, roads+fresh+skip+end+skip+end+end, 1+8*(1+16*2+2)+1)
	wantNeed(t, roads+choose+skip+other+ret+end+end+end, 1+8*(1+2+1)+1)
}

func TestEveryInstructionIsTaken(t *testing.T) {
	for o := op.End; o <= op.Push; o++ {
		shape, _ := op.Shape(o)
		switch o {
		case op.End, op.Else, op.If, op.Loop, op.Skip:
			continue
		}
		wantNeed(t, instr(o, make([]int, len(shape))...)+end, 2)
		wantRefused(t, instr(o, make([]int, len(shape)+1)...)+end+end)
		if shape != "" {
			wantRefused(t, instr(o, make([]int, len(shape)-1)...))
		}
	}
}

func TestNoSuchInstruction(t *testing.T) {
	for o := int(op.Push) + 1; o < 256; o++ {
		wantRefused(t, string([]byte{byte(o)})+end)
		wantRefused(t, add+string([]byte{byte(o), 0, 0, 0})+end)
	}
}

// Each number of each instruction, in its bounds and beyond them.
func TestNumbersOfInstructions(t *testing.T) {
	for o := op.End; o <= op.Push; o++ {
		shape, _ := op.Shape(o)
		for i, letter := range shape {
			for _, n := range []int{math.MinInt, -1, 0, op.Lists - 1, op.Lists, allSlots, allSlots + 1, 1 << 32, math.MaxInt} {
				numbers := make([]int, len(shape))
				numbers[i] = n
				holdNumber(t, o, numbers, isGood(letter, n))
			}
		}
	}
}

func isGood(letter rune, n int) bool {
	switch letter {
	case op.Slot:
		return n >= 0 && n < op.MaxSlots
	case op.List:
		return n >= 0 && n < op.Lists
	}
	return true
}

func holdNumber(t *testing.T, o op.Op, numbers []int, want bool) {
	t.Helper()
	code := instr(o, numbers...) + end
	switch o {
	case op.If, op.Loop:
		code += end
	case op.Skip:
		code = roads + code + end
	}
	if _, errno := vm.Load(code); (errno == api.OK) != want {
		t.Errorf("Load of %d %v: %d", o, numbers, errno)
	}
}

func TestBlocksThatDoNotFit(t *testing.T) {
	for _, code := range []string{
		"", add, ret, choose, roads, choose + end, roads + end, choose + roads + end + end, choose + other + end, roads + choose + end + end,
		end + end, end + add, end + ret, end + "\x00", choose + end + end + end, roads + end + end + end,
		other + end, add + other + end, roads + other + end + end, choose + other + other + end + end, choose + roads + other + end + end + end, choose + end + other + end,
		skip + end, choose + skip + end + end, roads + end + skip + end, roads + end + choose + skip + end + end,
	} {
		wantRefused(t, code)
	}
}

// The least need above the bound is refused, however it comes about.
func TestNeedIsBounded(t *testing.T) {
	const most = 40*api.MaxCost + 40
	deep := func(n int) string { return strings.Repeat(roads, n) + strings.Repeat(end, n) }
	wantNeed(t, deep(8)+end, needOf(8))
	wantRefused(t, deep(9)+end)
	wantRefused(t, strings.Repeat(roads, 30000)+strings.Repeat(end, 30001))
	wantRefused(t, strings.Repeat(fresh, 7)+strings.Repeat(end, 8))
	wantRefused(t, deep(8)+deep(8)+end)
	wantRefused(t, choose+deep(8)+deep(8)+end+end)
	wantRefused(t, choose+other+deep(8)+deep(8)+end+end)
	wantNeed(t, choose+deep(8)+other+deep(8)+end+end, 1+needOf(8)+1)

	rest, code := most-needOf(8), deep(8)
	for n := 7; n > 0; n-- {
		for ; rest >= needOf(n)-1; rest -= needOf(n) - 1 {
			code += deep(n)
		}
	}
	code += strings.Repeat(add, rest)
	wantNeed(t, code+end, most)
	wantRefused(t, code+add+end)
}

// needOf tells what so many loops through roads in one another need, and the
// End of the code.
func needOf(loops int) int {
	need := 0
	for range loops {
		need = 1 + 8*(need+1)
	}
	return need + 1
}

func TestDeepChoices(t *testing.T) {
	wantNeed(t, strings.Repeat(choose, 30000)+strings.Repeat(end, 30001), 30001)
	wantNeed(t, strings.Repeat(choose, 20000)+strings.Repeat(other+end, 20000)+end, 20000+20000+1)
	wantRefused(t, strings.Repeat(choose, 30000)+strings.Repeat(end, 30000))
}

func TestLengthIsBounded(t *testing.T) {
	wantNeed(t, strings.Repeat(ret, 99999)+end, 100000)
	wantRefused(t, strings.Repeat(ret, 100000)+end)
	wantRefused(t, strings.Repeat("x", 1000000))
}

func TestNumbersThatAreNone(t *testing.T) {
	long := "\xff\xff\xff\xff\xff\xff\xff\xff\xff"
	number := string([]byte{byte(op.Number), 0})
	wantNeed(t, number+long+"\x01"+end, 2)
	wantRefused(t, number+long+"\x02"+end)
	wantRefused(t, number+long+"\xff\x00"+end)
	wantRefused(t, number+"\x80")
	wantRefused(t, string([]byte{byte(op.Number)}))
}

var programs = []string{
	"", "return;", "R0 = 1 + 2;", "push(ROADS.first, FRESH.first);", "R0 = ROADS.count + FRESH.count * AGAIN.count;",
	"each p in FRESH { push(ROADS.filter(r: r.out < r.cwnd).min(s: s.rtt), p); }",
	"var x = AGAIN.filter(p: p.size > 3).filter(q: !q.on(ROADS.first)).max(z: z.seq); if isnone(x) { return; } else { push(ROADS.filter(r: r.lossy).first, x); }",
	"each p in FRESH.filter(q: R0 == 0) { R0 = 1; each r in ROADS { if ROADS.any(s: s.rtt < r.rtt) { return; } push(r, p); } }",
	"R0 = R0 + 1; if R0 % 2 == 0 { return; } push(ROADS.first, AGAIN.first);",
	"var y = true && !false || 1 < 2; if y == false { R1 = -5 / 0 % 2; R2 = FRESH.sum(p: p.size - 123456789012345678); }",
}

func codes(t *testing.T) []string {
	t.Helper()
	var list []string
	for i := range 2 * len(programs) {
		code, errno, _ := lang.Compile(programs[i/2], i%2 == 1)
		if errno != api.OK {
			t.Fatalf("Compile(%q): %d", programs[i/2], errno)
		}
		list = append(list, code)
	}
	return list
}

func TestCompiledCodeIsTaken(t *testing.T) {
	for i, code := range codes(t) {
		cost, _, _ := lang.Check(programs[i/2])
		c, errno := vm.Load(code)
		if c == nil || errno != api.OK || c.Need() < 1 || c.Need() > 40*cost+40 {
			t.Errorf("Load of %q: %v, %d", programs[i/2], c, errno)
		}
	}
}

// Code ends with the End that its first byte waits for: no part of it is code,
// nor is it with bytes behind it.
func TestCutAndLengthenedCode(t *testing.T) {
	for _, code := range codes(t) {
		for i := range code {
			wantRefused(t, code[:i])
		}
		for b := range 256 {
			wantRefused(t, code+string([]byte{byte(b)}))
		}
		wantRefused(t, code+code)
	}
}

// Whatever the bytes: an answer, and the need in its bounds.
func TestAnyBytes(t *testing.T) {
	random := rand.New(rand.NewPCG(1, 2))
	for n := range 200000 {
		b := make([]byte, random.IntN(24))
		for i := range b {
			b[i] = byte(random.IntN([]int{256, 40, 10}[n%3]))
		}
		wantAnswer(t, string(b))
	}
	for _, code := range codes(t) {
		for i := range code {
			for b := range 256 {
				wantAnswer(t, code[:i]+string([]byte{byte(b)})+code[i+1:])
			}
		}
	}
}

func wantAnswer(t *testing.T, code string) {
	t.Helper()
	c, errno := vm.Load(code)
	switch {
	case errno == api.ErrCode && c == nil:
	case errno == api.OK && c != nil && c.Need() >= 1 && c.Need() <= 40*api.MaxCost+40:
	default:
		t.Errorf("Load(%x) = %v, %d", code, c, errno)
	}
}

// Codes know nothing of one another.
func TestCodesAreTheirOwn(t *testing.T) {
	var group sync.WaitGroup
	for range 8 {
		group.Go(func() {
			for range 50 {
				one, _ := vm.Load(roads + add + end + end)
				two, _ := vm.Load(add + end)
				wantRefused(t, add)
				if one.Need() != 18 || two.Need() != 2 {
					t.Errorf("needs %d and %d", one.Need(), two.Need())
				}
			}
		})
	}
	group.Wait()
}
