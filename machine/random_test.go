package machine

import (
	"math/rand"
	"reflect"
	"testing"

	"scree/alloc"
	"scree/api"
	"scree/code"
)

// randomCode is a code in form, of some functions, made at random.
func randomCode(r *rand.Rand) api.Code {
	c := api.Code{}
	count := 1 + r.Intn(4)
	for n := range count {
		f := api.Func{Regs: 2 + r.Intn(5), Name: "f", Names: []string{"print", "a", "__next__", "append", "len", "ValueError", "__add__"}, Consts: []api.Const{{Kind: api.CInt, Text: "3"}, {Kind: api.CStr, Text: "ab"}, {Kind: api.CFloat, Text: "2.5"}, {Kind: api.CInt, Text: "1000000000000000000000"}}}
		if n > 0 {
			f.Params, f.Frees, f.Gen = r.Intn(min(3, f.Regs)), n%2, r.Intn(3) == 0
		}
		c.Funcs = append(c.Funcs, f)
	}
	for n := range c.Funcs {
		f := &c.Funcs[n]
		size := 12 + r.Intn(25)
		for reg := f.Params; reg < f.Regs-r.Intn(2); reg++ {
			f.Ins = append(f.Ins, api.Ins{Op: []int{api.OConst, api.OList, api.OSet, api.OCell, api.ODict, api.OConst, api.OBuiltin}[r.Intn(7)], D: reg})
		}
		for len(f.Ins) < size {
			if i, ok := randomIns(r, c, *f, size); ok {
				f.Ins = append(f.Ins, i)
			}
		}
		f.Ins = append(f.Ins, api.Ins{Op: api.OReturn, A: r.Intn(f.Regs)})
		for range 2 + r.Intn(9) {
			from := r.Intn(size)
			f.Regions = append(f.Regions, api.Region{From: from, To: from + r.Intn(size-from+1), Target: min(size, from+r.Intn(size)), D: r.Intn(f.Regs)})
		}
	}
	return c
}

// randomIns is an instruction that is in form there, if the first try was one.
func randomIns(r *rand.Rand, c api.Code, f api.Func, size int) (api.Ins, bool) {
	reg := func() int { return r.Intn(f.Regs) }
	often := []int{api.OConst, api.OConst, api.OLit, api.OMove, api.OGetG, api.OCall, api.OCall, api.OFunc, api.OFunc, api.OList, api.OCell, api.ONext, api.OIter, api.OSetC, api.OClass, api.OAttr, api.OSetAttr, api.OBuiltin, api.OYield, api.OJump, api.OLine}
	op := r.Intn(45)
	if r.Intn(2) == 0 {
		op = often[r.Intn(len(often))]
	}
	probe := api.Ins{Op: op, A: 1, B: 2, D: 3, L: []int{4}}
	i := api.Ins{Op: op}
	for _, k := range append(code.Reads(probe), code.Writes(probe)...) {
		switch k {
		case 1:
			i.A = reg()
		case 2:
			i.B = reg()
		case 3:
			i.D = reg()
		case 4:
			for range r.Intn(4) {
				i.L = append(i.L, reg())
			}
		}
	}
	if op == api.OJump || len(code.Goes(probe, 0)) == 2 {
		i.T = r.Intn(size)
	}
	switch op {
	case api.OCmp:
		i.K = 1 + r.Intn(10)
	case api.OBin:
		i.K = 1 + r.Intn(7)
	case api.OUn:
		i.K = 1 + r.Intn(2)
	case api.OConst:
		i.K = r.Intn(4)
	case api.OFunc:
		i.K = 1 + r.Intn(4)
		if i.K >= len(c.Funcs) {
			return i, false
		}
		i.L = nil
		for range c.Funcs[i.K].Frees {
			i.L = append(i.L, reg())
		}
	case api.OBuiltin:
		i.K = r.Intn(35)
	case api.OLine, api.OLit:
		i.K = r.Intn(3)
	case api.OGetG, api.OSetG, api.ODelG, api.OAttr, api.OSetAttr, api.ODelAttr, api.OClass:
		i.K = r.Intn(7)
	}
	one := api.Code{Funcs: append([]api.Func{}, c.Funcs...)}
	for n := range one.Funcs {
		one.Funcs[n].Ins, one.Funcs[n].Regions = []api.Ins{{Op: api.OJump}}, nil
	}
	g := f
	g.Ins = make([]api.Ins, size)
	g.Ins[size-1] = api.Ins{Op: api.OJump}
	g.Ins[0] = i
	for n := range one.Funcs {
		if one.Funcs[n].Regs == f.Regs && one.Funcs[n].Params == f.Params && one.Funcs[n].Frees == f.Frees && one.Funcs[n].Gen == f.Gen {
			one.Funcs[n] = g
			_, _, e := code.Check(one)
			return i, e == api.OK
		}
	}
	return i, false
}

// P21.2, P21.4, P11.5 on codes that no source is lowered to.
func TestRandomCodes(t *testing.T) {
	r := rand.New(rand.NewSource(5))
	ends := map[int]int{}
	for n := range 800 {
		c := randomCode(r)
		if f, at, e := code.Check(c); e != api.OK {
			t.Fatal("not in form", f, at)
		}
		g := api.Config{Fuel: 60, Words: 9000, Inputs: []string{"i"}}
		want := Run(c, g)
		ends[want.End]++
		d, e := alloc.All(c)
		if e != api.OK {
			t.Fatal(e)
		}
		all, force := g, g
		all.All = true
		force.Force = []int{1, 5, 7, 11, 12, 13, 20, 40}
		for k, x := range []api.Report{Run(c, all), Run(c, force), Run(d, g), Run(d, all), Run(d, force)} {
			if !reflect.DeepEqual(x, want) && x.End != api.EndHeap && want.End != api.EndHeap {
				t.Fatalf("code %d, way %d: %v, want %v\n%v", n, k, x, want, c)
			}
		}
		small := g
		small.Words = 420 + r.Intn(300)
		if x := Run(d, small); x.End != api.EndHeap && want.End != api.EndHeap && !reflect.DeepEqual(x, want) {
			t.Fatalf("code %d, little memory: %v, want %v", n, x, want)
		}
	}
	if ends[api.EndOK] < 50 || ends[api.EndRaise] < 50 || ends[api.EndFuel] < 50 {
		t.Error("ends", ends)
	}
}
