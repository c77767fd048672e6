package lang_test

import (
	"math/rand/v2"
	"slices"
	"testing"

	"helm/api"
	"helm/op"
	"helm/vm"
)

// change changes a few bytes of code: they become others, go, or come in.
func change(random *rand.Rand, code string) string {
	b := []byte(code)
	for range 1 + random.IntN(2) {
		i, with := random.IntN(len(b)+1), byte(random.IntN(256))
		if random.IntN(3) > 0 {
			with = byte(random.IntN(int(op.Push) + 1))
		}
		switch {
		case i == len(b) || random.IntN(3) == 0:
			b = slices.Insert(b, i, with)
		case random.IntN(2) == 0:
			b = slices.Delete(b, i, i+1)
		default:
			b[i] = with
		}
	}
	return string(b)
}

// Code that nobody compiled is refused, or a run of it ends in as many steps as
// it says, with actions of the view's roads and packets.
func TestChangedCode(t *testing.T) {
	t.Parallel()
	random := rand.New(rand.NewPCG(11, 12))
	taken, refused := 0, 0
	for range 3000 {
		w := writer{random: random, flat: 1 + random.IntN(2)}
		src := w.program()
		if len(src) > 1000 || w.cost > 5000 {
			continue
		}
		for range 5 {
			code := change(random, compile(t, src, random.IntN(2) == 0).code)
			loaded, errno := vm.Load(code)
			if errno == api.ErrCode && loaded == nil {
				refused++
				continue
			}
			if errno != api.OK || loaded == nil {
				t.Fatalf("Load(%x) = %v, %d", code, loaded, errno)
			}
			if loaded.Need() > 200000 {
				continue
			}
			taken++
			wantHarmless(t, code, loaded.Need(), someView(random), someRegisters(random))
		}
	}
	if taken < 1000 || refused < 1000 {
		t.Errorf("of the changed codes %d were taken, %d refused", taken, refused)
	}
}

func wantHarmless(t *testing.T, code string, need int, v api.View, regs [8]int) {
	t.Helper()
	result, steps := run(code, v, regs)
	if steps > need {
		t.Fatalf("%x took %d steps, and said %d", code, steps, need)
	}
	for _, action := range result.Actions {
		isRoad := slices.ContainsFunc(v.Roads, func(r api.Road) bool { return r.Id == action.Road })
		isPacket := slices.ContainsFunc(slices.Concat(v.Fresh, v.Again), func(p api.Packet) bool { return p.Seq == action.Seq })
		if !isRoad || !isPacket {
			t.Fatalf("%x pushed %v", code, action)
		}
	}
}
