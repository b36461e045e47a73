package alloc

import (
	"math/rand"
	"reflect"
	"testing"

	"scree/api"
	"scree/code"
	"scree/flow"
	"scree/lower"
	"scree/parse"
)

func c(d int) api.Ins         { return api.Ins{Op: api.OConst, D: d} }
func mv(d, a int) api.Ins     { return api.Ins{Op: api.OMove, D: d, A: a} }
func ret(a int) api.Ins       { return api.Ins{Op: api.OReturn, A: a} }
func bin(d, a, b int) api.Ins { return api.Ins{Op: api.OBin, D: d, A: a, B: b, K: 1} }

// P11.1: by example.
func TestRight(t *testing.T) {
	three := api.Func{Regs: 3, Ins: []api.Ins{c(0), c(1), bin(2, 0, 1), ret(2)}}
	copies := api.Func{Regs: 3, Ins: []api.Ins{c(0), mv(1, 0), bin(2, 0, 1), ret(2)}}
	param := api.Func{Regs: 2, Params: 1, Ins: []api.Ins{ret(1)}}
	changed := api.Func{Regs: 2, Ins: []api.Ins{c(0), mv(1, 0), c(0), bin(0, 0, 1), ret(0)}}
	dead := api.Func{Regs: 2, Ins: []api.Ins{c(0), c(1), ret(0)}}
	handled := api.Func{Regs: 3, Ins: []api.Ins{c(0), {Op: api.OCall, D: 1, A: 0}, ret(1), ret(0)}, Regions: []api.Region{{From: 1, To: 2, Target: 3, D: 2}}}
	unpack := api.Func{Regs: 3, Ins: []api.Ins{c(0), {Op: api.OUnpack, A: 0, L: []int{1, 2}}, bin(0, 1, 2), ret(0)}}
	next := api.Func{Regs: 2, Ins: []api.Ins{c(0), {Op: api.ONext, D: 1, A: 0, T: 2}, ret(0)}}
	movedToHandler := api.Func{Regs: 2, Ins: []api.Ins{c(0), mv(1, 0), ret(1), ret(0)}, Regions: []api.Region{{From: 1, To: 2, Target: 3, D: 1}}}
	for i, x := range []struct {
		f    api.Func
		m    []int
		n    int
		want bool
	}{
		{three, []int{0, 1, 0}, 2, true}, {three, []int{0, 1, 1}, 2, true}, {three, []int{1, 0, 1}, 2, true}, {three, []int{0, 1, 2}, 3, true}, {three, []int{0, 0, 1}, 2, false}, {three, []int{0, 1, 0}, 1, false}, {three, []int{0, 1, 0}, 3, true}, {three, []int{0, 1, 0}, 4, false}, {three, []int{0, 1}, 2, false}, {three, []int{0, 1, 0, 0}, 2, false}, {three, []int{0, 1, -1}, 2, false}, {three, []int{0, 1, 2}, 2, false}, {three, nil, 0, false},
		{copies, []int{0, 0, 0}, 1, true}, {param, []int{0, 0}, 1, false}, {param, []int{0, 1}, 2, true}, {param, []int{1, 0}, 2, false}, {changed, []int{0, 0}, 1, false}, {changed, []int{0, 1}, 2, true}, {dead, []int{0, 0}, 1, false}, {dead, []int{1, 0}, 2, true},
		{handled, []int{0, 0, 1}, 2, true}, {handled, []int{0, 1, 0}, 2, false}, {handled, []int{0, 1, 1}, 2, true}, {unpack, []int{0, 0, 1}, 2, true}, {unpack, []int{0, 1, 1}, 2, false}, {next, []int{0, 0}, 1, false}, {movedToHandler, []int{0, 0}, 1, false}, {movedToHandler, []int{0, 1}, 2, true},
		{api.Func{Ins: []api.Ins{{Op: api.OJump}}}, nil, 0, true}, {api.Func{}, nil, 0, false},
	} {
		if got := Right(x.f, x.m, x.n); got != x.want {
			t.Errorf("case %d: Right(%v, %d) = %v", i, x.m, x.n, got)
		}
		g, e := Apply(x.f, x.m, x.n)
		if (e == api.OK) != x.want || e != api.OK && !reflect.DeepEqual(g, api.Func{}) || e != api.OK && e != api.ErrForm {
			t.Errorf("case %d: Apply: %d", i, e)
		}
	}
}

// random is a sound function, made at random.
func random(r *rand.Rand) api.Func {
	f := api.Func{Regs: 1 + r.Intn(7), Name: "f", Names: []string{"a"}, Frees: 1, Bound: 3}
	f.Params = r.Intn(f.Regs + 1)
	n := 2 + r.Intn(9)
	reg := func() int { return r.Intn(f.Regs) }
	for range n {
		i := api.Ins{Op: r.Intn(46), D: reg(), A: reg(), B: reg(), T: r.Intn(n + 1), K: r.Intn(9)}
		if r.Intn(3) == 0 {
			i.Op = api.OMove
		}
		for range r.Intn(3) {
			i.L = append(i.L, reg())
		}
		f.Ins = append(f.Ins, i)
	}
	f.Ins = append(f.Ins, ret(reg()))
	for range r.Intn(3) {
		from := r.Intn(n)
		f.Regions = append(f.Regions, api.Region{From: from, To: from + r.Intn(n-from+1), Target: r.Intn(n), D: reg()})
	}
	return f
}

// rightByRule is the words' own rule, pair by pair.
func rightByRule(f api.Func, m []int, n int) bool {
	if !flow.Sound(f) || len(m) != f.Regs || n < f.Params || n > f.Regs {
		return false
	}
	live, _ := flow.Live(f)
	is := func(at, r int) bool { return live[at][r/64]>>(r%64)&1 == 1 }
	for r, p := range m {
		if p < 0 || p >= n || r < f.Params && p != r || r >= f.Params && is(0, r) && p < f.Params {
			return false
		}
	}
	clash := func(d, to, copied int) bool {
		for r := range m {
			if r != d && r != copied && is(to, r) && m[r] == m[d] {
				return true
			}
		}
		return false
	}
	for at, i := range f.Ins {
		for k, to := range code.Goes(i, at) {
			if k > 0 || i.Op == api.OJump {
				continue
			}
			copied := -1
			if i.Op == api.OMove {
				copied = i.A
			}
			for _, d := range code.Writes(i) {
				if clash(d, to, copied) {
					return false
				}
			}
		}
		if h := flow.Handler(f, at); h >= 0 && clash(f.Regions[h].D, f.Regions[h].Target, -1) {
			return false
		}
	}
	return true
}

// P11.1, P11.2, P11.3, P11.6, on functions of all kinds.
func TestRandom(t *testing.T) {
	r := rand.New(rand.NewSource(1))
	for range 4000 {
		f := random(r)
		m := make([]int, f.Regs)
		n := f.Params + r.Intn(f.Regs-f.Params+1)
		for i := range m {
			m[i] = i
			if i >= f.Params {
				m[i] = r.Intn(max(n, 1))
			}
		}
		if Right(f, m, n) != rightByRule(f, m, n) {
			t.Fatalf("Right(%v, %v, %d) = %v", f, m, n, Right(f, m, n))
		}
		m, n, e := Assign(f)
		if e != api.OK || !rightByRule(f, m, n) {
			t.Fatalf("Assign(%v): %v %d %d", f, m, n, e)
		}
		g, e := Apply(f, m, n)
		if e != api.OK || g.Regs != n || g.Params != f.Params || g.Frees != 1 || g.Bound != 3 || g.Name != "f" || len(g.Ins) != len(f.Ins) {
			t.Fatalf("Apply: %v %d", g, e)
		}
		for at, i := range f.Ins {
			j := g.Ins[at]
			if i.Op != j.Op || i.K != j.K || i.T != j.T || len(i.L) != len(j.L) || !reflect.DeepEqual(moved(code.Reads(i), m), code.Reads(j)) || !reflect.DeepEqual(moved(code.Writes(i), m), code.Writes(j)) {
				t.Fatalf("%v became %v by %v", i, j, m)
			}
			for _, x := range [][2]int{{i.D, j.D}, {i.A, j.A}, {i.B, j.B}} {
				if x[0] != x[1] && x[1] != m[x[0]] {
					t.Fatalf("%v became %v by %v", i, j, m)
				}
			}
		}
		for k, x := range f.Regions {
			x.D = m[x.D]
			if g.Regions[k] != x {
				t.Fatal("a region")
			}
		}
	}
}

func moved(list, m []int) []int {
	var out []int
	for _, r := range list {
		out = append(out, m[r])
	}
	return out
}

func TestNotSound(t *testing.T) {
	for _, f := range []api.Func{{}, {Regs: 1, Ins: []api.Ins{c(0)}}, {Regs: 1, Ins: []api.Ins{ret(1)}}} {
		if m, n, e := Assign(f); m != nil || n != 0 || e != api.ErrForm {
			t.Errorf("%v: %v %d %d", f, m, n, e)
		}
	}
}

// An instruction's field that names no register stays.
func TestFieldsThatStay(t *testing.T) {
	f := api.Func{Regs: 2, Ins: []api.Ins{{Op: api.OLine, D: 1, A: 1, B: 1, K: 1, L: []int{1}}, {Op: 70, D: 9, A: 9, B: 9, L: []int{9}}, c(1), ret(1)}}
	g, e := Apply(f, []int{0, 0}, 1)
	if e != api.OK || !reflect.DeepEqual(g.Ins[:2], f.Ins[:2]) || g.Ins[2].D != 0 || g.Ins[3].A != 0 {
		t.Errorf("%v %d", g, e)
	}
}

// P11.4, P11.5: fewer registers, and in form.
func TestAll(t *testing.T) {
	n, _, _ := parse.Source([]byte("def f(a, b):\n  c = a + b\n  for d in c:\n    try: d(a, [c for c in b])\n    except a as e: raise\n    finally: d = lambda: c\n  with a as q: return q\nx = y = f(1, 2) + f(3, 4)\nwhile x: x -= 1"))
	k, _, _ := lower.Lower(n)
	keep, _, _ := lower.Lower(n)
	got, e := All(k)
	if e != api.OK || len(got.Funcs) != len(k.Funcs) {
		t.Fatal(e)
	}
	if _, _, e := code.Check(got); e != api.OK {
		t.Error("not in form")
	}
	for i, f := range got.Funcs {
		if f.Regs > k.Funcs[i].Regs || f.Bound != k.Funcs[i].Bound {
			t.Errorf("function %d has %d registers of %d", i, f.Regs, k.Funcs[i].Regs)
		}
	}
	if got.Funcs[0].Regs > 6 {
		t.Errorf("main has %d registers", got.Funcs[0].Regs)
	}
	if !reflect.DeepEqual(k, keep) {
		t.Error("the code was changed")
	}
	got.Funcs[1].Names[0] = "z"
	got.Funcs[1].Ins[0].D = 99
	for i := range got.Funcs[1].Ins {
		for j := range got.Funcs[1].Ins[i].L {
			got.Funcs[1].Ins[i].L[j] = 99
		}
	}
	if !reflect.DeepEqual(k, keep) {
		t.Error("memory is shared")
	}
	if bad, e := All(api.Code{}); e != api.ErrForm || bad.Funcs != nil {
		t.Errorf("no code: %d", e)
	}
}
