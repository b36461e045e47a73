package flow

import (
	"math/rand"
	"reflect"
	"testing"

	"scree/api"
	"scree/code"
	"scree/lower"
	"scree/parse"
)

func c(d int) api.Ins          { return api.Ins{Op: api.OConst, D: d} }
func mv(d, a int) api.Ins      { return api.Ins{Op: api.OMove, D: d, A: a} }
func ret(a int) api.Ins        { return api.Ins{Op: api.OReturn, A: a} }
func next(d, a, t int) api.Ins { return api.Ins{Op: api.ONext, D: d, A: a, T: t} }

func regs(row []uint64) []int {
	out := []int{}
	for r := range len(row) * 64 {
		if row[r/64]>>(r%64)&1 == 1 {
			out = append(out, r)
		}
	}
	return out
}

func live(t *testing.T, f api.Func) [][]int {
	t.Helper()
	rows, e := Live(f)
	if e != api.OK {
		t.Fatalf("Live: %d", e)
	}
	out := [][]int{}
	for _, row := range rows {
		out = append(out, regs(row))
	}
	return out
}

// P10.1.
func TestSound(t *testing.T) {
	good := api.Func{Regs: 2, Params: 1, Ins: []api.Ins{c(0), ret(1)}, Regions: []api.Region{{To: 2, Target: 1, D: 1}}}
	if !Sound(good) {
		t.Error("a sound function")
	}
	for what, spoil := range map[string]func(f *api.Func){
		"Regs": func(f *api.Func) { f.Regs = -1 }, "too many Regs": func(f *api.Func) { f.Regs = 65537 }, "Params": func(f *api.Func) { f.Params = 3 }, "Params below": func(f *api.Func) { f.Params = -1 }, "no instruction": func(f *api.Func) { f.Ins = nil }, "D": func(f *api.Func) { f.Ins[0].D = 2 }, "A": func(f *api.Func) { f.Ins[1].A = -1 },
		"the end": func(f *api.Func) { f.Ins[1] = c(0) }, "unknown end": func(f *api.Func) { f.Ins[1] = api.Ins{Op: 77} }, "T": func(f *api.Func) { f.Ins[1] = api.Ins{Op: api.OJump, T: 2} }, "L": func(f *api.Func) { f.Ins[0] = api.Ins{Op: api.OUnpack, L: []int{2}} },
		"From": func(f *api.Func) { f.Regions[0].From = -1 }, "To": func(f *api.Func) { f.Regions[0].To = 3 }, "From above To": func(f *api.Func) { f.Regions[0] = api.Region{From: 2, To: 1} }, "Target": func(f *api.Func) { f.Regions[0].Target = 2 }, "region's D": func(f *api.Func) { f.Regions[0].D = 2 },
	} {
		f := good
		f.Ins = append([]api.Ins{}, good.Ins...)
		f.Regions = append([]api.Region{}, good.Regions...)
		spoil(&f)
		if Sound(f) {
			t.Errorf("%s: sound", what)
		}
		_, e1 := Reach(f)
		_, e2 := Live(f)
		if e1 != api.ErrForm || e2 != api.ErrForm {
			t.Errorf("%s: %d %d", what, e1, e2)
		}
	}
	if !Sound(api.Func{Ins: []api.Ins{{Op: 77, A: 5}, {Op: api.OJump}}}) || !Sound(api.Func{Regs: 65536, Ins: []api.Ins{ret(65535)}}) {
		t.Error("sound functions")
	}
}

// P10.1: of any function.
func TestWays(t *testing.T) {
	f := api.Func{Ins: []api.Ins{{Op: api.OCall}, next(0, 0, 7), {Op: api.OLine}, {Op: api.OJump, T: -3}, {Op: 99}, {Op: api.ORaise}, {Op: api.OIf, T: 7}}, Regions: []api.Region{{From: 3, To: 2, Target: 9}, {From: 1, To: 4, Target: 11}, {From: -5, To: 99, Target: 12}}}
	for at, want := range map[int][]int{-1: nil, 7: nil, 0: {1, 12}, 1: {2, 7, 11}, 2: {3}, 3: {-3}, 4: {5}, 5: {12}, 6: {7, 7, 12}} {
		if got := Ways(f, at); !reflect.DeepEqual(got, want) {
			t.Errorf("Ways(%d) = %v, want %v", at, got, want)
		}
	}
	for at, want := range map[int]int{-1: -1, 7: -1, 0: 2, 1: 1, 2: -1, 3: -1, 4: -1, 5: 2} {
		if got := Handler(f, at); got != want {
			t.Errorf("Handler(%d) = %d, want %d", at, got, want)
		}
	}
}

// P10.2.
func TestReach(t *testing.T) {
	f := api.Func{Regs: 1, Ins: []api.Ins{{Op: api.OJump, T: 2}, c(0), {Op: api.OIf, T: 5}, {Op: api.OLine}, ret(0), {Op: api.OJump, T: 5}, ret(0), ret(0)}, Regions: []api.Region{{From: 0, To: 3, Target: 7}, {From: 3, To: 4, Target: 6}}}
	if got, e := Reach(f); !reflect.DeepEqual(got, []bool{true, false, true, true, true, true, false, true}) || e != api.OK {
		t.Errorf("%v %d", got, e)
	}
}

// P10.3: by example.
func TestLive(t *testing.T) {
	for _, x := range []struct {
		f    api.Func
		want [][]int
	}{
		{api.Func{Regs: 2, Ins: []api.Ins{c(0), mv(1, 0), ret(1)}}, [][]int{{}, {0}, {1}}},
		{api.Func{Regs: 2, Ins: []api.Ins{next(1, 0, 2), ret(1), ret(1)}}, [][]int{{0, 1}, {1}, {1}}},
		{api.Func{Regs: 2, Ins: []api.Ins{{Op: api.OCall, A: 1}, ret(0), ret(0)}, Regions: []api.Region{{To: 1, Target: 2}}}, [][]int{{1}, {0}, {0}}},
		{api.Func{Regs: 3, Ins: []api.Ins{{Op: api.OCall, A: 1}, ret(0), ret(0)}, Regions: []api.Region{{To: 1, Target: 2, D: 2}}}, [][]int{{0, 1}, {0}, {0}}},
		{api.Func{Regs: 4, Ins: []api.Ins{next(1, 0, 1), {Op: api.OUnpack, A: 1, L: []int{2, 3}}, {Op: api.OIf, A: 2, T: 0}, ret(3)}}, [][]int{{0, 1}, {0, 1}, {0, 1, 2, 3}, {3}}},
		{api.Func{Regs: 130, Ins: []api.Ins{c(129), mv(64, 129), mv(0, 64), ret(0)}}, [][]int{{}, {129}, {64}, {0}}},
		{api.Func{Regs: 1, Ins: []api.Ins{{Op: api.OLine}, {Op: api.OLit}, ret(0)}, Regions: []api.Region{{To: 2, Target: 2}}}, [][]int{{}, {}, {0}}},
		{api.Func{Ins: []api.Ins{{Op: api.OJump}}}, [][]int{{}}},
	} {
		if got := live(t, x.f); !reflect.DeepEqual(got, x.want) {
			t.Errorf("%v: %v, want %v", x.f.Ins, got, x.want)
		}
	}
	rows, _ := Live(api.Func{Regs: 65, Ins: []api.Ins{ret(0)}})
	none, _ := Live(api.Func{Ins: []api.Ins{{Op: api.OJump}}})
	if len(rows[0]) != 2 || len(none[0]) != 0 {
		t.Error("how many words")
	}
}

// random is a sound function, made at random.
func random(r *rand.Rand) api.Func {
	f := api.Func{Regs: 1 + r.Intn(6)}
	n := 2 + r.Intn(9)
	reg := func() int { return r.Intn(f.Regs) }
	for range n {
		i := api.Ins{Op: r.Intn(45), D: reg(), A: reg(), B: reg(), T: r.Intn(n + 1)}
		for range r.Intn(3) {
			i.L = append(i.L, reg())
		}
		f.Ins = append(f.Ins, i)
	}
	f.Ins = append(f.Ins, ret(reg()))
	for range r.Intn(3) {
		from := r.Intn(n)
		f.Regions = append(f.Regions, api.Region{From: from, To: from + r.Intn(n-from+1), Target: r.Intn(n), D: reg()})
	}
	return f
}

// readFirst walks all ways: is register r read ahead of its being written, from at on?
func readFirst(f api.Func, at, r int, seen map[int]int) bool {
	if seen[at] > 0 {
		return false
	}
	seen[at] = 1
	for _, x := range code.Reads(f.Ins[at]) {
		if x == r {
			return true
		}
	}
	has := func(list []int) bool {
		for _, x := range list {
			if x == r {
				return true
			}
		}
		return false
	}
	op := f.Ins[at].Op
	for n, to := range code.Goes(f.Ins[at], at) {
		toNext := n == 0 && op != api.OJump
		if !(toNext && has(code.Writes(f.Ins[at]))) && readFirst(f, to, r, seen) {
			return true
		}
	}
	if h := Handler(f, at); h >= 0 && f.Regions[h].D != r {
		return readFirst(f, f.Regions[h].Target, r, seen)
	}
	return false
}

// P10.3: held against the words' own rule.
func TestLiveByRule(t *testing.T) {
	r := rand.New(rand.NewSource(1))
	for range 3000 {
		f := random(r)
		rows, e := Live(f)
		if e != api.OK {
			t.Fatal(e, f)
		}
		for at := range f.Ins {
			for reg := range f.Regs {
				if got, want := rows[at][0]>>reg&1 == 1, readFirst(f, at, reg, map[int]int{}); got != want {
					t.Fatalf("%v: register %d at %d: %v", f, reg, at, got)
				}
			}
		}
	}
}

// P10.5.
func TestMemory(t *testing.T) {
	n, _, _ := parse.Source([]byte("def f(a):\n  for b in a:\n    try: b()\n    except c as d: raise\n    finally: e\nf(1)"))
	k, _, _ := lower.Lower(n)
	for _, f := range k.Funcs {
		keep := append([]api.Ins{}, f.Ins...)
		a, _ := Live(f)
		b, _ := Live(f)
		if !reflect.DeepEqual(a, b) || !reflect.DeepEqual(keep, f.Ins) {
			t.Error("answered otherwise, or changed")
		}
		last := append([]uint64{}, a[1]...)
		a[0] = append(a[0], 7)
		a[0][0] = 99
		if !reflect.DeepEqual(a[1], last) {
			t.Error("rows share memory")
		}
		if a, _ := Live(f); len(a) > 0 && f.Params == 0 && len(regs(a[0])) > 0 {
			t.Error("something is live at the beginning")
		}
	}
}

// P10.4: with a read taken away nothing becomes live that wasn't; what is live at the beginning and no parameter may be read unset.
func TestFollows(t *testing.T) {
	r := rand.New(rand.NewSource(2))
	for range 2000 {
		f := random(r)
		rows, _ := Live(f)
		g := f
		g.Ins = append([]api.Ins{}, f.Ins...)
		at := r.Intn(len(g.Ins) - 1)
		g.Ins[at] = api.Ins{Op: api.OCell, D: f.Ins[at].D}
		if len(code.Reads(f.Ins[at])) == 0 || !reflect.DeepEqual(code.Writes(f.Ins[at]), code.Writes(g.Ins[at])) || len(code.Goes(f.Ins[at], at)) != 1 || Handler(f, at) != Handler(g, at) {
			continue
		}
		fewer, e := Live(g)
		if e != api.OK {
			t.Fatal(e)
		}
		for k := range rows {
			if fewer[k][0]&^rows[k][0] != 0 {
				t.Fatalf("%v at %d: more is live", f, at)
			}
		}
	}
	rows, _ := Live(api.Func{Regs: 3, Params: 1, Ins: []api.Ins{{Op: api.OIf, A: 0, T: 2}, c(2), {Op: api.OReturn, A: 2}}})
	if !reflect.DeepEqual(regs(rows[0]), []int{0, 2}) {
		t.Error(regs(rows[0]))
	}
}
