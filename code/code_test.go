package code

import (
	"math"
	"reflect"
	"strings"
	"testing"

	"scree/api"
)

const ops = 45

// P8.2: what each instruction reads and writes, told by its letters (L small: it is written).
var letters = map[int]string{
	api.ONop: "", api.OLine: "", api.OLit: "D", api.OConst: "D", api.OMove: "DA", api.OUnset: "D", api.OGetG: "D", api.OSetG: "A", api.ODelG: "", api.OCell: "D", api.OGetC: "DA", api.OSetC: "AB", api.OClear: "A", api.OFree: "D", api.OBin: "DAB", api.OUn: "DA", api.OCmp: "DAB", api.ONot: "DA",
	api.OJump: "", api.OIf: "A", api.OUnless: "A", api.OCall: "DAL", api.OAttr: "DA", api.OSetAttr: "AB", api.OIndex: "DAB", api.OSetIndex: "ABL", api.ODelIndex: "AB", api.OSlice: "DAL", api.OList: "DL", api.OTuple: "DL", api.OSet: "DL", api.ODict: "DL", api.OAppend: "AB", api.OAdd: "AB", api.ODelAttr: "A",
	api.OUnpack: "Al", api.OFunc: "DL", api.OClass: "DL", api.OIter: "DA", api.ONext: "DA", api.OYield: "DA", api.OReturn: "A", api.ORaise: "A", api.OMatch: "DAB", api.OBuiltin: "D", -1: "", 45: "", math.MaxInt: "",
}

func TestReadsWrites(t *testing.T) {
	if len(letters) != ops+3 {
		t.Fatal("not all instructions")
	}
	for op, s := range letters {
		i := api.Ins{Op: op, D: 11, A: 12, B: 13, L: []int{-7, 9, 9}}
		var reads, writes []int
		for _, c := range s {
			switch c {
			case 'D':
				writes = append(writes, 11)
			case 'A':
				reads = append(reads, 12)
			case 'B':
				reads = append(reads, 13)
			case 'L':
				reads = append(reads, -7, 9, 9)
			case 'l':
				writes = append(writes, -7, 9, 9)
			}
		}
		r, w := Reads(i), Writes(i)
		if !reflect.DeepEqual(r, reads) || !reflect.DeepEqual(w, writes) {
			t.Errorf("%d: reads %v, writes %v", op, r, w)
		}
		for _, l := range [][]int{r, w} {
			for k := range l {
				l[k] = 0
			}
		}
		if i.L[0] != -7 || i.L[1] != 9 {
			t.Errorf("%d: memory is shared", op)
		}
	}
	if got := Reads(api.Ins{Op: api.OCall, D: 1, A: 2, L: []int{3, 2}}); !reflect.DeepEqual(got, []int{2, 3, 2}) {
		t.Error(got)
	}
}

func TestGoes(t *testing.T) {
	for op := -2; op < ops+2; op++ {
		want := []int{5}
		switch op {
		case api.OJump:
			want = []int{9}
		case api.OIf, api.OUnless, api.ONext:
			want = []int{5, 9}
		case api.OReturn, api.ORaise:
			want = nil
		}
		if got := Goes(api.Ins{Op: op, T: 9}, 4); !reflect.DeepEqual(got, want) {
			t.Errorf("%d: %v, want %v", op, got, want)
		}
	}
	if got := Goes(api.Ins{Op: api.OMove}, math.MaxInt); !reflect.DeepEqual(got, []int{math.MaxInt}) {
		t.Error(got)
	}
	if got := Goes(api.Ins{}, -1); !reflect.DeepEqual(got, []int{0}) {
		t.Error(got)
	}
}

func TestAllocates(t *testing.T) {
	for op := -2; op < ops+2; op++ {
		want := op >= 0 && op < ops && op != api.ONop && op != api.OLine && op != api.OLit && op != api.OUnset && op != api.OJump
		if Allocates(op) != want {
			t.Errorf("Allocates(%d)", op)
		}
	}
}

// one is a code of one function with these instructions and an OReturn behind them.
func one(ins ...api.Ins) api.Code {
	return api.Code{Funcs: []api.Func{{Regs: 4, Names: []string{"a", "b"}, Consts: []api.Const{{Kind: api.CInt, Text: "1"}}, Ins: append(ins, api.Ins{Op: api.OReturn})}}}
}

func expect(t *testing.T, what string, c api.Code, f, at int, err api.Errno) {
	t.Helper()
	if gf, ga, e := Check(c); gf != f || ga != at || e != err {
		t.Errorf("%s: %d, %d, %d; want %d, %d, %d", what, gf, ga, e, f, at, err)
	}
}

// P8.1: right instructions, and each with one field that is wrong.
func TestInstructions(t *testing.T) {
	right := []api.Ins{
		{}, {Op: api.OLine, K: 7}, {Op: api.OLine}, {Op: api.OLit, D: 3, K: 2}, {Op: api.OConst, D: 1}, {Op: api.OMove, D: 1, A: 3}, {Op: api.OUnset, D: 1}, {Op: api.OGetG, D: 1, K: 1}, {Op: api.OSetG, A: 1, K: 1}, {Op: api.ODelG, K: 1}, {Op: api.OCell, D: 1}, {Op: api.OGetC, D: 1, A: 1}, {Op: api.OSetC, A: 1, B: 3}, {Op: api.OClear, A: 3},
		{Op: api.OBin, D: 1, A: 1, B: 1, K: 1}, {Op: api.OBin, D: 1, A: 1, B: 1, K: 7}, {Op: api.OUn, D: 1, A: 1, K: 2}, {Op: api.OCmp, D: 1, A: 1, B: 1, K: 10}, {Op: api.ONot, D: 1, A: 1}, {Op: api.OJump, T: 1}, {Op: api.OIf, A: 1, T: 1}, {Op: api.OUnless, A: 1}, {Op: api.OCall, D: 1, A: 1, L: []int{1, 2, 3}}, {Op: api.OCall, D: 1, A: 1},
		{Op: api.OAttr, D: 1, A: 1, K: 1}, {Op: api.OSetAttr, A: 1, B: 1, K: 1}, {Op: api.ODelAttr, A: 1, K: 1}, {Op: api.OIndex, D: 1, A: 1, B: 1}, {Op: api.OSetIndex, A: 1, B: 1, L: []int{1}}, {Op: api.ODelIndex, A: 1, B: 1}, {Op: api.OSlice, D: 1, A: 1, L: []int{1, 1}}, {Op: api.OList, D: 1, L: []int{3}}, {Op: api.OTuple, D: 1}, {Op: api.OSet, D: 1, L: []int{0, 0, 0}}, {Op: api.ODict, D: 1, L: []int{1, 2}},
		{Op: api.OAppend, A: 1, B: 1}, {Op: api.OAdd, A: 1, B: 1}, {Op: api.OUnpack, A: 1, L: []int{1, 1}}, {Op: api.OUnpack, A: 1}, {Op: api.OClass, D: 1, K: 1, L: []int{2}}, {Op: api.OIter, D: 1, A: 1}, {Op: api.ONext, D: 1, A: 1, T: 1}, {Op: api.OReturn, A: 3}, {Op: api.ORaise, A: 1}, {Op: api.OMatch, D: 1, A: 1, B: 1}, {Op: api.OBuiltin, D: 1, K: 34},
	}
	for _, i := range right {
		expect(t, "right", one(i), 0, 0, api.OK)
		s := letters[i.Op]
		for _, bad := range []int{-1, 4, math.MinInt, math.MaxInt} {
			wrong := []api.Ins{i, i, i, i}
			wrong[0].D, wrong[1].A, wrong[2].B, wrong[3].T = bad, bad, bad, bad
			for _, w := range wrong {
				expect(t, s, one(w), 0, 0, api.ErrForm)
			}
			if len(i.L) > 0 {
				w := i
				w.L = append([]int{bad}, i.L[1:]...)
				expect(t, "L", one(w), 0, 0, api.ErrForm)
			}
		}
		for c, set := range map[byte]func(*api.Ins){'D': func(w *api.Ins) { w.D = 1 }, 'A': func(w *api.Ins) { w.A = 1 }, 'B': func(w *api.Ins) { w.B = 1 }} {
			if strings.IndexByte(s, c) < 0 {
				w := i
				set(&w)
				expect(t, "a field too many", one(w), 0, 0, api.ErrForm)
			}
		}
		if !strings.Contains(strings.ToLower(s), "l") {
			w := i
			w.L = []int{0}
			expect(t, "an L too many", one(w), 0, 0, api.ErrForm)
		}
		if len(Goes(i, 0)) < 2 && i.Op != api.OJump {
			w := i
			w.T = 1
			expect(t, "a T too many", one(w), 0, 0, api.ErrForm)
		}
	}
	for _, i := range []api.Ins{
		{Op: -1}, {Op: 45}, {Op: api.OLine, K: -1}, {Op: api.OLit, K: 3}, {Op: api.OLit, K: -1}, {Op: api.OConst, K: 1}, {Op: api.OGetG, K: 2}, {Op: api.OSetG, K: -1}, {Op: api.ODelG, K: 2}, {Op: api.OAttr, K: 2}, {Op: api.OSetAttr, K: 2}, {Op: api.ODelAttr, K: 2}, {Op: api.OClass, K: 2}, {Op: api.OFree}, {Op: api.OBin}, {Op: api.OBin, K: 8}, {Op: api.OUn}, {Op: api.OUn, K: 3}, {Op: api.OCmp}, {Op: api.OCmp, K: 11},
		{Op: api.OFunc, K: 0}, {Op: api.OFunc, K: 1}, {Op: api.OBuiltin, K: 35}, {Op: api.OBuiltin, K: -1}, {Op: api.OYield}, {K: 1}, {Op: api.OSetIndex}, {Op: api.OSetIndex, L: []int{1, 1}}, {Op: api.OSlice, L: []int{1}}, {Op: api.OSlice, L: []int{1, 1, 1}}, {Op: api.ODict, L: []int{1}}, {Op: api.OMove, K: 1}, {Op: api.OJump, T: 3},
	} {
		expect(t, "wrong", one(api.Ins{}, i), 0, 1, api.ErrForm)
	}
}

// P8.1: all else.
func TestForms(t *testing.T) {
	expect(t, "no function", api.Code{}, -1, -1, api.ErrForm)
	many := one()
	for len(many.Funcs) < 4000 {
		many.Funcs = append(many.Funcs, many.Funcs[0])
	}
	expect(t, "4000 functions", many, 0, 0, api.OK)
	many.Funcs = append(many.Funcs, many.Funcs[0])
	expect(t, "4001 functions", many, -1, -1, api.ErrForm)
	long := strings.Repeat("x", 20001)
	heads := map[string]func(f *api.Func){
		"Regs -1": func(f *api.Func) { f.Regs = -1 }, "Regs": func(f *api.Func) { f.Regs = 65537 }, "Params -1": func(f *api.Func) { f.Params = -1 }, "Params": func(f *api.Func) { f.Params = 5 }, "Frees": func(f *api.Func) { f.Frees = -1 }, "Bound": func(f *api.Func) { f.Bound = -1 },
		"Name": func(f *api.Func) { f.Name = long }, "Names": func(f *api.Func) { f.Names = []string{"a", "b", long} }, "no instruction": func(f *api.Func) { f.Ins = nil },
	}
	for _, k := range []api.Const{{}, {Kind: 4}, {Kind: api.CInt}, {Kind: api.CInt, Text: "-1"}, {Kind: api.CInt, Text: "1.5"}, {Kind: api.CInt, Text: "1" + strings.Repeat("0", 540)}, {Kind: api.CFloat}, {Kind: api.CFloat, Text: "inf"}, {Kind: api.CFloat, Text: "-1.0"}, {Kind: api.CFloat, Text: "1."}, {Kind: api.CFloat, Text: strings.Repeat("1", 1001)}, {Kind: api.CStr, Text: long}} {
		heads["constant "+k.Text[:min(9, len(k.Text))]+string(rune('0'+k.Kind))] = func(f *api.Func) { f.Consts = append(f.Consts[:1:1], k) }
	}
	for what, spoil := range heads {
		c := one(api.Ins{Op: 99})
		c.Funcs = append(c.Funcs, c.Funcs[0])
		c.Funcs[0] = one().Funcs[0]
		spoil(&c.Funcs[1])
		expect(t, what, c, 1, -1, api.ErrForm)
	}
	for what, spoil := range map[string]func(f *api.Func){"Params": func(f *api.Func) { f.Params = 1 }, "Frees": func(f *api.Func) { f.Frees = 1 }, "Gen": func(f *api.Func) { f.Gen = true }} {
		c := one()
		c.Funcs = append(c.Funcs, c.Funcs[0])
		spoil(&c.Funcs[1])
		expect(t, what+" of function 1", c, 0, 0, api.OK)
		spoil(&c.Funcs[0])
		expect(t, what+" of function 0", c, 0, -1, api.ErrForm)
	}
	c := one(api.Ins{Op: api.OReturn, A: 4})
	c.Funcs[0].Regions = []api.Region{{Target: 9}}
	expect(t, "the first wrong instruction", c, 0, 0, api.ErrForm)
	last := one()
	last.Funcs[0].Ins = append(last.Funcs[0].Ins, api.Ins{})
	expect(t, "the last one", last, 0, 1, api.ErrForm)
	for op, err := range map[int]api.Errno{api.OJump: 0, api.ORaise: 0, api.OIf: api.ErrForm, api.ONext: api.ErrForm, api.OUnset: api.ErrForm} {
		last.Funcs[0].Ins[1].Op = op
		at := 0
		if err != 0 {
			at = 1
		}
		expect(t, "another last one", last, 0, at, err)
	}
	none := one()
	none.Funcs[0].Regs = 0
	expect(t, "no register", none, 0, 0, api.ErrForm)
	edge := one()
	edge.Funcs[0].Regs, edge.Funcs[0].Name, edge.Funcs[0].Consts = 65536, long[1:], []api.Const{{Kind: api.CStr, Text: long[1:]}, {Kind: api.CInt, Text: strings.Repeat("9", 540)}, {Kind: api.CFloat, Text: "1e999"}, {Kind: api.CStr}}
	expect(t, "the edges", edge, 0, 0, api.OK)
}

func TestRegionsAndFuncs(t *testing.T) {
	for r, ok := range map[api.Region]bool{{}: true, {To: 2, Target: 1, D: 3}: true, {From: 2, To: 2}: true, {Target: 2}: false, {Target: -1}: false, {D: 4}: false, {D: -1}: false, {From: 1}: false, {From: -1}: false, {To: 3}: false} {
		c := one(api.Ins{})
		c.Funcs[0].Regions = []api.Region{{}, r}
		if ok {
			expect(t, "a region", c, 0, 0, api.OK)
		} else {
			expect(t, "a region", c, 0, -2, api.ErrForm)
		}
	}
	c := one(api.Ins{Op: api.OFunc, D: 1, K: 1, L: []int{2, 3}})
	c.Funcs = append(c.Funcs, one(api.Ins{Op: api.OFree, K: 1}, api.Ins{Op: api.OYield}).Funcs[0])
	c.Funcs[1].Frees, c.Funcs[1].Gen = 2, true
	expect(t, "a function with cells", c, 0, 0, api.OK)
	c.Funcs[1].Frees = 1
	expect(t, "too many cells", c, 0, 0, api.ErrForm)
	c.Funcs[0].Ins[0].L = c.Funcs[0].Ins[0].L[:1]
	expect(t, "no such cell", c, 1, 0, api.ErrForm)
	c.Funcs[1].Frees, c.Funcs[1].Gen = 2, false
	c.Funcs[0].Ins[0].L = []int{2, 3}
	expect(t, "no generator", c, 1, 1, api.ErrForm)
}
