package machine

import (
	"reflect"
	"strings"
	"testing"

	"scree/api"
)

func codeOf(f ...api.Func) api.Code { return api.Code{Funcs: f} }

func ins(op, d, a, b, k int, l ...int) api.Ins {
	return api.Ins{Op: op, D: d, A: a, B: b, K: k, L: l}
}

func to(i api.Ins, t int) api.Ins {
	i.T = t
	return i
}

var ret = ins(api.OReturn, 0, 0, 0, 0)

// P21.1: what isn't right.
func TestEndArg(t *testing.T) {
	good := codeOf(api.Func{Regs: 1, Ins: []api.Ins{ins(api.OLit, 0, 0, 0, 0), ret}})
	right := api.Config{Words: 9000}
	if r := Run(good, right); !reflect.DeepEqual(r, api.Report{End: api.EndOK}) {
		t.Error(r)
	}
	for what, f := range map[string]func(c *api.Code, g *api.Config){
		"code": func(c *api.Code, g *api.Config) { c.Funcs = nil }, "form": func(c *api.Code, g *api.Config) { c.Funcs[0].Regs = 0 }, "fuel below": func(c *api.Code, g *api.Config) { g.Fuel = -1 }, "fuel above": func(c *api.Code, g *api.Config) { g.Fuel = 1000001 }, "words below": func(c *api.Code, g *api.Config) { g.Words = 1 }, "words above": func(c *api.Code, g *api.Config) { g.Words = 1<<20 + 1 }, "inputs": func(c *api.Code, g *api.Config) { g.Inputs = make([]string, 1001) },
	} {
		c := codeOf(append([]api.Func{}, good.Funcs...)...)
		g := right
		f(&c, &g)
		if r := Run(c, g); !reflect.DeepEqual(r, api.Report{End: api.EndArg}) {
			t.Errorf("%s: %v", what, r)
		}
	}
	if r := Run(good, api.Config{Words: 1 << 20, Fuel: 1000000, Inputs: make([]string, 1000)}); r.End != api.EndOK {
		t.Error(r)
	}
	for _, words := range []int{2, 50, 100, 200} {
		if r := Run(good, api.Config{Words: words}); !reflect.DeepEqual(r, api.Report{End: api.EndHeap}) {
			t.Errorf("%d words: %v", words, r)
		}
	}
}

// Steps back that use no fuel.
func TestIdle(t *testing.T) {
	loop := func(times string) api.Code {
		return codeOf(api.Func{Regs: 2, Consts: []api.Const{{Kind: api.CInt, Text: times}, {Kind: api.CInt, Text: "1"}}, Ins: []api.Ins{ins(api.OConst, 0, 0, 0, 0), ins(api.OConst, 1, 0, 0, 1), to(ins(api.OUnless, 0, 0, 0, 0), 5), ins(api.OBin, 0, 0, 1, api.Sub), to(ins(api.OJump, 0, 0, 0, 0), 2), ret}})
	}
	for times, end := range map[string]int{"0": api.EndOK, "199": api.EndOK, "200": api.EndFuel, "500": api.EndFuel} {
		if r := Run(loop(times), api.Config{Words: 9000, Fuel: 7}); r.End != end || r.Fuel != 0 {
			t.Errorf("%s steps: %v", times, r)
		}
	}
	withLine := loop("500")
	withLine.Funcs[0].Ins[3], withLine.Funcs[0].Ins[4] = ins(api.OLine, 0, 0, 0, 3), to(ins(api.OJump, 0, 0, 0, 0), 2)
	if r := Run(withLine, api.Config{Words: 9000, Fuel: 1000}); r.End != api.EndFuel || r.Fuel != 1000 || r.Line != 3 {
		t.Error(r)
	}
	for what, i := range map[string]api.Ins{"OJump": to(ins(api.OJump, 0, 0, 0, 0), 1), "OIf": to(ins(api.OIf, 0, 0, 0, 0), 1), "OUnless": to(ins(api.OUnless, 0, 1, 0, 0), 1)} {
		c := codeOf(api.Func{Regs: 2, Ins: []api.Ins{ins(api.OLit, 0, 0, 0, 2), ins(api.OLit, 1, 0, 0, 0), i, ret}})
		if r := Run(c, api.Config{Words: 9000}); r.End != api.EndFuel {
			t.Errorf("%s: %v", what, r)
		}
	}
	// An exception that comes to a target ahead of it is a step back, too.
	c := codeOf(api.Func{Regs: 2, Ins: []api.Ins{ins(api.OMove, 0, 1, 0, 0), ret}, Regions: []api.Region{{To: 1, Target: 0, D: 0}}})
	if r := Run(c, api.Config{Words: 9000}); r.End != api.EndFuel {
		t.Error(r)
	}
	// A step on is none.
	var on []api.Ins
	for i := range 300 {
		on = append(on, to(ins(api.OJump, 0, 0, 0, 0), i+1))
	}
	if r := Run(codeOf(api.Func{Regs: 1, Ins: append(on, ins(api.OLit, 0, 0, 0, 0), ret)}), api.Config{Words: 9000}); r.End != api.EndOK {
		t.Error(r)
	}
	// An ONext uses fuel, and then goes back.
	next := codeOf(api.Func{Regs: 3, Ins: []api.Ins{ins(api.OList, 0, 0, 0, 0), ins(api.OIter, 1, 0, 0, 0), to(ins(api.ONext, 2, 1, 0, 0), 2), ret}})
	if r := Run(next, api.Config{Words: 9000, Fuel: 900}); r.End != api.EndFuel || r.Fuel != 900 {
		t.Error(r)
	}
}

// First, of all: a register that is unbound.
func TestUnbound(t *testing.T) {
	for op := range api.OBuiltin + 1 {
		i := api.Ins{Op: op, A: 1, D: 2}
		u := findUses()[op]
		f := api.Func{Regs: 4, Frees: 0, Names: []string{"zzz"}, Consts: []api.Const{{Kind: api.CInt, Text: "1"}}}
		switch op {
		case api.OBin, api.OUn, api.OCmp:
			i.K = 1
		case api.OSetIndex:
			i.L = []int{1}
		case api.OSlice:
			i.L = []int{1, 1}
		case api.OYield, api.OFree, api.OFunc:
			continue
		case api.OList, api.OTuple, api.OSet, api.OClass:
			i.L = []int{1}
			i.A = 0
		case api.ODict:
			i.L = []int{1, 1}
			i.A = 0
		}
		if !u.a && !u.l {
			continue
		}
		for _, w := range []bool{false, true} {
			if !w {
				i.D = 0
			}
			f.Ins = []api.Ins{i, {Op: api.OLit}, ret}
			if r := Run(codeOf(f), api.Config{Words: 9000, Fuel: 9}); r.End == api.EndRaise && r.Class != "NameError" || r.End == api.EndOK || r.End == api.EndFuel {
				t.Errorf("instruction %d: %v", op, r)
			}
		}
	}
	// Ahead of fuel, and of an argument's kind.
	next := codeOf(api.Func{Regs: 2, Ins: []api.Ins{to(ins(api.ONext, 1, 0, 0, 0), 1), ret}})
	if r := Run(next, api.Config{Words: 9000}); r.Class != "NameError" {
		t.Error(r)
	}
	bin := codeOf(api.Func{Regs: 2, Ins: []api.Ins{ins(api.OLit, 0, 0, 0, 0), ins(api.OBin, 0, 0, 1, 1), ret}})
	if r := Run(bin, api.Config{Words: 9000}); r.Class != "NameError" {
		t.Error(r)
	}
}

// Cells as values, and instructions that want them.
func TestCells(t *testing.T) {
	for n, c := range []struct {
		ins  []api.Ins
		want string
	}{
		{[]api.Ins{ins(api.OCell, 0, 0, 0, 0), ins(api.OGetC, 1, 0, 0, 0), ret}, "NameError"}, {[]api.Ins{ins(api.OLit, 0, 0, 0, 0), ins(api.OGetC, 1, 0, 0, 0), ret}, "TypeError"}, {[]api.Ins{ins(api.OLit, 0, 0, 0, 0), ins(api.OSetC, 0, 0, 0, 0), ret}, "TypeError"}, {[]api.Ins{ins(api.OLit, 0, 0, 0, 0), ins(api.OClear, 0, 0, 0, 0), ret}, "TypeError"},
		{[]api.Ins{ins(api.OCell, 0, 0, 0, 0), ins(api.OSetC, 0, 0, 0, 0), ins(api.OGetC, 1, 0, 0, 0), ins(api.OCmp, 1, 0, 1, api.Is), to(ins(api.OIf, 0, 1, 0, 0), 6), ins(api.OGetC, 0, 1, 0, 0), ins(api.OClear, 0, 0, 0, 0), ins(api.OGetC, 1, 0, 0, 0), ret}, "NameError"},
		{[]api.Ins{ins(api.OLit, 0, 0, 0, 0), ins(api.OFunc, 1, 0, 0, 1, 0), ret}, "TypeError"}, {[]api.Ins{ins(api.OCell, 0, 0, 0, 0), ins(api.OFunc, 1, 0, 0, 1, 0), ins(api.OCall, 1, 1, 0, 0), ins(api.ORaise, 0, 1, 0, 0)}, "TypeError"}, {[]api.Ins{ins(api.OCell, 0, 0, 0, 0), ins(api.OCmp, 1, 0, 0, api.Eq), to(ins(api.OIf, 0, 1, 0, 0), 4), ins(api.OGetC, 1, 1, 0, 0), ret}, ""},
		{[]api.Ins{ins(api.OLit, 0, 0, 0, 0), ins(api.OAppend, 0, 0, 0, 0), ret}, "TypeError"}, {[]api.Ins{ins(api.OList, 0, 0, 0, 0), ins(api.OAdd, 0, 0, 0, 0), ret}, "TypeError"}, {[]api.Ins{ins(api.OSet, 0, 0, 0, 0), ins(api.OAppend, 0, 0, 0, 0), ret}, "TypeError"}, {[]api.Ins{ins(api.OSet, 0, 0, 0, 0), ins(api.OAdd, 0, 0, 0, 0), ret}, "TypeError"}, {[]api.Ins{ins(api.OLit, 0, 0, 0, 0), ins(api.OMatch, 0, 0, 0, 0), ret}, "TypeError"}, {[]api.Ins{ins(api.ONop, 0, 0, 0, 0), ins(api.OBuiltin, 0, 0, 0, 32), ins(api.ORaise, 0, 0, 0, 0)}, "EOFError"},
	} {
		f := api.Func{Regs: 2, Ins: c.ins}
		g := api.Func{Frees: 1, Regs: 1, Ins: []api.Ins{ins(api.OFree, 0, 0, 0, 0), ret}}
		r := Run(codeOf(f, g), api.Config{Words: 9000, Fuel: 9})
		if r.Class != c.want {
			t.Errorf("case %d: %v, want %s", n, r, c.want)
		}
	}
}

// More items than there may be.
func TestManyItems(t *testing.T) {
	many := make([]int, 20001)
	for _, c := range []struct {
		op   int
		n    int
		want string
	}{{api.OList, 20000, ""}, {api.OList, 20001, "OverflowError"}, {api.OTuple, 20001, "OverflowError"}, {api.OCall, 20000, "TypeError"}, {api.OCall, 20001, "OverflowError"}, {api.OSet, 20000, ""}} {
		i := api.Ins{Op: c.op, L: many[:c.n]}
		r := Run(codeOf(api.Func{Regs: 1, Ins: []api.Ins{ins(api.OLit, 0, 0, 0, 0), i, ret}}), api.Config{Words: 1 << 18})
		if r.Class != c.want {
			t.Errorf("%d of %d: %v", c.op, c.n, r)
		}
	}
}

// The first region counts, and an exception goes through frames to it.
func TestRegions(t *testing.T) {
	f := api.Func{Regs: 3, Names: []string{"print"}, Ins: []api.Ins{ins(api.OFunc, 0, 0, 0, 1), ins(api.OCall, 1, 0, 0, 0), ret, ret, ins(api.OGetG, 0, 0, 0, 0), ins(api.OCall, 0, 0, 0, 0, 2), ret}, Regions: []api.Region{{From: 2, To: 3, Target: 3, D: 2}, {From: 1, To: 2, Target: 4, D: 2}, {From: 0, To: 3, Target: 3, D: 2}}}
	g := api.Func{Regs: 1, Ins: []api.Ins{ins(api.OMove, 0, 0, 0, 0), ret}, Regions: []api.Region{{From: 1, To: 2, Target: 1, D: 0}}}
	r := Run(codeOf(f, g), api.Config{Words: 9000, Fuel: 9})
	if r.End != api.EndOK || strings.Join(r.Out, "/") != "" || len(r.Out) != 1 {
		t.Error(r)
	}
}

// P1: the report shares no memory with what was handed in, and answers are the same each time.
func TestMemory(t *testing.T) {
	c := codes(t, "def f(a): return [x for x in a]\nprint(f('ab'), input())")[1]
	keep := codes(t, "def f(a): return [x for x in a]\nprint(f('ab'), input())")[1]
	g := api.Config{Fuel: 99, Words: 9000, Inputs: []string{"i"}, Force: []int{3, 4}}
	a, b := Run(c, g), Run(c, g)
	if !reflect.DeepEqual(a, b) || !reflect.DeepEqual(c, keep) || g.Inputs[0] != "i" || g.Force[1] != 4 {
		t.Error(a, b)
	}
}

// How little memory is wanted.
func TestLittle(t *testing.T) {
	for _, src := range []string{"", "print(1)"} {
		if n := least(codes(t, src)[1], api.Config{Fuel: 9}); n <= 100 || n > 3000 {
			t.Errorf("%q wants %d words", src, n)
		}
	}
}
