package roots

import (
	"math"
	"math/rand"
	"reflect"
	"testing"

	"scree/api"
	"scree/code"
	"scree/flow"
)

func listed(m []uint64) []int {
	out := []int{}
	for r := range len(m)*64 + 9 {
		if Has(m, r) {
			out = append(out, r)
		}
	}
	return out
}

// P12.1: by example.
func TestMaps(t *testing.T) {
	for _, x := range []struct {
		f    api.Func
		want [][]int
	}{
		{api.Func{Regs: 2, Ins: []api.Ins{{Op: api.OConst}, {Op: api.OMove, D: 1}, {Op: api.OReturn, A: 1}}}, [][]int{{}, {0}, {1}}},
		{api.Func{Regs: 5, Ins: []api.Ins{{Op: api.OCall, A: 1, L: []int{2}}, {Op: api.OLine}, {Op: api.OReturn}, {Op: api.OReturn, A: 4}}, Regions: []api.Region{{To: 1, Target: 3}}}, [][]int{{1, 2, 4}, {}, {0}, {4}}},
		{api.Func{Regs: 70, Ins: []api.Ins{{Op: api.OBin, D: 1, A: 69, B: 64}, {Op: api.OJump}}}, [][]int{{64, 69}, {}}},
	} {
		got, e := Maps(x.f)
		if e != api.OK || len(got) != len(x.f.Ins) {
			t.Fatalf("%d", e)
		}
		for at, m := range got {
			size := 0
			if code.Allocates(x.f.Ins[at].Op) {
				size = (x.f.Regs + 63) / 64
			}
			if !reflect.DeepEqual(listed(m), x.want[at]) || len(m) != size {
				t.Errorf("%v at %d: %v, want %v", x.f.Ins, at, listed(m), x.want[at])
			}
		}
	}
	if m, e := Maps(api.Func{}); m != nil || e != api.ErrForm {
		t.Error("not sound")
	}
}

// P12.2, P12.3: a register is in the map just if it is read ahead of its being written on some row of ways.
func TestEnoughAndNoMore(t *testing.T) {
	r := rand.New(rand.NewSource(1))
	for range 2000 {
		f := api.Func{Regs: 1 + r.Intn(5)}
		n := 2 + r.Intn(8)
		reg := func() int { return r.Intn(f.Regs) }
		for range n {
			f.Ins = append(f.Ins, api.Ins{Op: r.Intn(45), D: reg(), A: reg(), B: reg(), T: r.Intn(n + 1), L: []int{reg()}})
		}
		f.Ins = append(f.Ins, api.Ins{Op: api.OReturn, A: reg()})
		f.Regions = []api.Region{{From: r.Intn(n), To: n, Target: r.Intn(n), D: reg()}}
		maps, e := Maps(f)
		if e != api.OK {
			t.Fatal(e)
		}
		live, _ := flow.Live(f)
		for at, i := range f.Ins {
			if !code.Allocates(i.Op) {
				if len(maps[at]) != 0 {
					t.Fatal("a map too many")
				}
				continue
			}
			if !reflect.DeepEqual(maps[at], live[at]) {
				t.Fatalf("%v at %d", f, at)
			}
		}
	}
}

// P12.4.
func TestHasCount(t *testing.T) {
	m := []uint64{5, 1 << 63}
	for r, want := range map[int]bool{0: true, 1: false, 2: true, 127: true, 126: false, 128: false, -1: false, math.MaxInt: false, math.MinInt: false, -64: false} {
		if Has(m, r) != want {
			t.Errorf("Has(%d)", r)
		}
	}
	if Count(m) != 3 || Count(nil) != 0 || Has(nil, 0) {
		t.Error("counts")
	}
}

// P12.5: a map that grows or changes leaves its neighbour alone.
func TestMemory(t *testing.T) {
	f := api.Func{Regs: 2, Ins: []api.Ins{{Op: api.OConst}, {Op: api.OMove, D: 1}, {Op: api.OReturn, A: 1}}}
	a, _ := Maps(f)
	_ = append(a[0], 99)
	a[1][0] = 77
	b, _ := Maps(f)
	if a[2][0] != 2 || b[1][0] != 1 || a[0][0] != 0 {
		t.Error("maps share memory")
	}
}
