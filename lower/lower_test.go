package lower

import (
	"reflect"
	"strconv"
	"strings"
	"testing"

	"scree/api"
	"scree/code"
	"scree/parse"
	"scree/scope"
)

func tree(t *testing.T, src string) api.Node {
	t.Helper()
	n, line, e := parse.Source([]byte(src))
	if e != api.OK {
		t.Fatalf("%q: %d at %d", src, e, line)
	}
	return n
}

var opNames = strings.Fields("Nop Line Lit Const Move Unset GetG SetG DelG Cell GetC SetC Clear Free Bin Un Cmp Not Jump If Unless Call Attr SetAttr Index SetIndex DelIndex Slice List Tuple Set Dict Append Add DelAttr Unpack Func Class Iter Next Yield Return Raise Match Builtin")

// tell writes an instruction in short: its name, D, A, B as the instruction has them, >T, the name or constant or K, L.
func tell(f api.Func, i api.Ins) string {
	s := opNames[i.Op]
	add := func(x string) { s += " " + x }
	d := len(code.Writes(i)) > 0 && i.Op != api.OUnpack
	if d {
		add(strconv.Itoa(i.D))
	}
	reads := len(code.Reads(api.Ins{Op: i.Op}))
	if reads > 0 {
		add(strconv.Itoa(i.A))
	}
	if reads > 1 {
		add(strconv.Itoa(i.B))
	}
	switch i.Op {
	case api.OConst:
		add(f.Consts[i.K].Text)
	case api.OGetG, api.OSetG, api.ODelG, api.OAttr, api.OSetAttr, api.ODelAttr, api.OClass:
		add(f.Names[i.K])
	case api.OLine, api.OLit, api.OFree, api.OBin, api.OUn, api.OCmp, api.OFunc, api.OBuiltin:
		add("#" + strconv.Itoa(i.K))
	case api.OJump, api.OIf, api.OUnless, api.ONext:
		add(">" + strconv.Itoa(i.T))
	}
	for _, r := range i.L {
		add("+" + strconv.Itoa(r))
	}
	return s
}

func listing(f api.Func) string {
	out := []string{}
	for _, i := range f.Ins {
		out = append(out, tell(f, i))
	}
	for _, r := range f.Regions {
		out = append(out, "["+strconv.Itoa(r.From)+" "+strconv.Itoa(r.To)+" "+strconv.Itoa(r.Target)+" "+strconv.Itoa(r.D)+"]")
	}
	return strings.Join(out, "; ")
}

// P9.1, P9.2: each statement's and expression's code, by the scheme's words (function number, listing, registers).
func TestCode(t *testing.T) {
	for _, c := range []struct {
		src  string
		f    int
		want string
		regs int
	}{
		{"a = 1", 0, "Line #1; Const 0 1; SetG 0 a; Lit 1 #0; Return 1", 2},
		{"def f(x):\n  return x + 1", 1, "Line #2; Move 1 0; Const 2 1; Bin 3 1 2 #1; Return 3; Lit 4 #0; Return 4", 5},
		{"x = [y for y in z]", 0, "Line #1; Unset 0; List 1; GetG 2 z; Iter 3 2; Next 4 3 >10; Move 0 4; Move 5 0; Append 1 5; Jump >5; SetG 1 x; Lit 6 #0; Return 6", 7},
		{"a and b or c", 0, "Line #1; GetG 2 a; Move 1 2; Unless 1 >6; GetG 3 b; Move 1 3; Move 0 1; If 0 >10; GetG 4 c; Move 0 4; Lit 5 #0; Return 5", 6},
		{"a < b", 0, "Line #1; GetG 0 a; GetG 1 b; Cmp 2 0 1 #3; Lit 3 #0; Return 3", 4},
		{"a < b <= c", 0, "Line #1; GetG 1 a; GetG 2 b; Cmp 3 1 2 #3; Move 0 3; Unless 0 >9; GetG 4 c; Cmp 5 2 4 #4; Move 0 5; Lit 6 #0; Return 6", 7},
		{"f(a, -b)[1:].c", 0, "Line #1; GetG 0 f; GetG 1 a; GetG 2 b; Un 3 2 #1; Call 4 0 +1 +3; Const 5 1; Lit 6 #0; Slice 7 4 +5 +6; Attr 8 7 c; Lit 9 #0; Return 9", 10},
		{"a if b else c", 0, "Line #1; GetG 1 b; Unless 1 >6; GetG 2 a; Move 0 2; Jump >8; GetG 3 c; Move 0 3; Lit 4 #0; Return 4", 5},
		{"[1, 1], (1.5,), {'x'}, {True: False}, None", 0, "Line #1; Const 0 1; Const 1 1; List 2 +0 +1; Const 3 1.5; Tuple 4 +3; Const 5 x; Set 6 +5; Lit 7 #2; Lit 8 #1; Dict 9 +7 +8; Lit 10 #0; Tuple 11 +2 +4 +6 +9 +10; Lit 12 #0; Return 12", 13},
		{"a.b = c[d] = (e, [f]) = g", 0, "Line #1; GetG 0 g; GetG 1 a; SetAttr 1 0 b; GetG 2 c; GetG 3 d; SetIndex 2 3 +0; Unpack 0 +4 +5; SetG 4 e; Unpack 5 +6; SetG 6 f; Lit 7 #0; Return 7", 8},
		{"a += 1\na.b *= 2\na[c] -= 3", 0, "Line #1; GetG 0 a; Const 1 1; Bin 2 0 1 #1; SetG 2 a; Line #2; GetG 3 a; Attr 4 3 b; Const 5 2; Bin 6 4 5 #3; SetAttr 3 6 b; Line #3; GetG 7 a; GetG 8 c; Index 9 7 8; Const 10 3; Bin 11 9 10 #2; SetIndex 7 8 +11; Lit 12 #0; Return 12", 13},
		{"if a: b\nelif c: d\nelse: e", 0, "Line #1; GetG 0 a; Unless 0 >6; Line #1; GetG 1 b; Jump >14; Line #2; GetG 2 c; Unless 2 >12; Line #2; GetG 3 d; Jump >14; Line #3; GetG 4 e; Lit 5 #0; Return 5", 6},
		{"while a:\n  if b: break\n  continue", 0, "Line #1; GetG 0 a; Unless 0 >11; Line #2; GetG 1 b; Unless 1 >8; Line #2; Jump >11; Line #3; Jump >1; Jump >1; Lit 2 #0; Return 2", 3},
		{"for a, b in c: pass", 0, "Line #1; GetG 0 c; Iter 1 0; Next 2 1 >9; Unpack 2 +3 +4; SetG 3 a; SetG 4 b; Line #1; Jump >3; Lit 5 #0; Return 5", 6},
		{"class A(b):\n  'x'\n  c = 1\n  def d(self): pass", 0, "Line #1; GetG 0 b; Class 1 A +0; Line #2; Line #3; Const 2 1; SetAttr 1 2 c; Line #4; Func 3 #1; SetAttr 1 3 d; SetG 1 A; Lit 4 #0; Return 4", 5},
		{"del a\ndel a.b\ndel a[b]\nassert a\nraise a", 0, "Line #1; DelG a; Line #2; GetG 0 a; DelAttr 0 b; Line #3; GetG 1 a; GetG 2 b; DelIndex 1 2; Line #4; GetG 3 a; If 3 >14; Builtin 4 #24; Raise 4; Line #5; GetG 5 a; Raise 5; Lit 6 #0; Return 6", 7},
		{"try: a\nexcept b as c: raise\nexcept: d", 0, "Line #1; Line #1; GetG 1 a; Jump >14; GetG 2 b; Match 3 0 2; Unless 3 >11; SetG 0 c; Line #2; Raise 0; Jump >14; Line #3; GetG 4 d; Jump >14; Lit 5 #0; Return 5; [1 3 4 0]", 6},
		{"try: a\nexcept b: c", 0, "Line #1; Line #1; GetG 1 a; Jump >11; GetG 2 b; Match 3 0 2; Unless 3 >10; Line #2; GetG 4 c; Jump >11; Raise 0; Lit 5 #0; Return 5; [1 3 4 0]", 6},
		{"try: a\nfinally: b", 0, "Line #1; Line #1; GetG 2 a; Lit 0 #0; Jump >6; Lit 0 #2; Line #2; GetG 3 b; Lit 4 #0; Cmp 5 0 4 #9; If 5 >15; Lit 4 #2; Cmp 5 0 4 #9; Unless 5 >15; Raise 1; Lit 6 #0; Return 6; [1 3 5 1]", 7},
		{"def f(x):\n  while x:\n    try: return x\n    finally: continue", 1, "Line #2; Move 1 0; Unless 1 >26; Line #3; Line #3; Move 4 0; Move 3 4; Const 2 2; Jump >12; Lit 2 #0; Jump >12; Lit 2 #2; Line #4; Jump >1; Lit 5 #0; Cmp 6 2 5 #9; If 6 >25; Lit 5 #2; Cmp 6 2 5 #9; Unless 6 >21; Raise 3; Const 5 2; Cmp 6 2 5 #1; Unless 6 >25; Return 3; Jump >1; Lit 7 #0; Return 7; [4 9 11 3]", 8},
		{"with a as b: c", 0, "Line #1; GetG 0 a; Attr 1 0 __exit__; Attr 2 0 __enter__; Call 3 2; SetG 3 b; Line #1; GetG 6 c; Lit 4 #0; Jump >13; Call 7 1 +5; If 7 >18; Raise 5; Lit 8 #0; Call 9 1 +8; Lit 10 #0; Cmp 11 4 10 #9; If 11 >18; Lit 12 #0; Return 12; [6 8 10 5]", 13},
		{"def f(a, b):\n  c = a\n  def g(): return a, c\n  del a\n  del b\n  c", 1, "Move 4 0; Cell 0; SetC 0 4; Cell 2; Line #2; GetC 5 0; SetC 2 5; Line #3; Func 6 #2 +0 +2; Move 3 6; Line #4; GetC 7 0; Clear 0; Line #5; Move 8 1; Unset 1; Line #6; GetC 9 2; Lit 10 #0; Return 10", 11},
		{"def f(a):\n  def g():\n    nonlocal a\n    a = lambda: a\n    del a", 2, "Line #3; Line #4; Free 0 #0; Func 1 #3 +0; Free 2 #0; SetC 2 1; Line #5; Free 3 #0; GetC 4 3; Clear 3; Lit 5 #0; Return 5", 6},
		{"f(lambda x: x)", 1, "Move 1 0; Return 1", 2},
		{"def f():\n  yield\n  x = yield 1", 1, "Line #2; Lit 1 #0; Yield 2 1; Line #3; Const 3 1; Yield 4 3; Move 0 4; Lit 5 #0; Return 5", 6},
		{"{a: b for a in c if a for b in d}", 0, "Line #1; Unset 0; Unset 1; Dict 2; GetG 3 c; Iter 4 3; Next 5 4 >19; Move 0 5; Move 6 0; Unless 6 >18; GetG 7 d; Iter 8 7; Next 9 8 >18; Move 1 9; Move 10 0; Move 11 1; SetIndex 2 10 +11; Jump >12; Jump >6; Lit 12 #0; Return 12", 13},
		{"{lambda: i for i in a}", 0, "Line #1; Cell 0; Set 1; GetG 2 a; Iter 3 2; Next 4 3 >10; SetC 0 4; Func 5 #1 +0; Add 1 5; Jump >5; Lit 6 #0; Return 6", 7},
		{"a[lambda: 1] = lambda: 2", 0, "Line #1; Func 0 #2; GetG 1 a; Func 2 #1; SetIndex 1 2 +0; Lit 3 #0; Return 3", 4},
		{"", 0, "Lit 0 #0; Return 0", 1},
	} {
		got, line, e := Lower(tree(t, c.src))
		if e != api.OK || line != 0 {
			t.Errorf("%q: %d at %d", c.src, e, line)
			continue
		}
		f := got.Funcs[c.f]
		text := listing(f)
		if text != c.want || f.Regs != c.regs || f.Bound != c.regs {
			t.Errorf("%q: %s (%d); want %s (%d)", c.src, text, f.Regs, c.want, c.regs)
		}
	}
}

const program = `
def outer(a, b):
  c = [lambda: i + a for i in b if i]
  class K(b):
    x = {j: a for j in b}
    def m(self):
      nonlocal c
      try:
        for q in c:
          with q as w:
            if w: return w
            elif a: break
            else: continue
          while True:
            try: raise
            except (a, b) as e: raise
            finally:
              yield w
      except: raise
      finally: del c
      yield
  del a, 
  assert K, 
`

// P9.1: in form, with the scopes' functions; P9.4: the tree stays.
func TestForm(t *testing.T) {
	src := strings.NewReplacer("  del a, \n  assert K, \n", "  del a\n  assert K\n", "try: raise\n", "try: raise a\n").Replace(program)
	n := tree(t, src)
	keep := tree(t, src)
	c, line, e := Lower(n)
	if e != api.OK {
		t.Fatalf("%d at %d", e, line)
	}
	if f, at, e := code.Check(c); e != api.OK {
		t.Fatalf("not in form: %d, %d", f, at)
	}
	scopes, _, _ := scope.Check(n)
	if len(scopes) != len(c.Funcs) {
		t.Fatal("functions")
	}
	for i, s := range scopes {
		f := c.Funcs[i]
		if f.Name != s.Name || f.Params != len(s.Params) || f.Frees != len(s.Frees) || f.Gen != s.Gen {
			t.Errorf("function %d: %v", i, f)
		}
	}
	if !reflect.DeepEqual(n, keep) {
		t.Error("the tree was changed")
	}
	again, _, _ := Lower(n)
	if !reflect.DeepEqual(c, again) {
		t.Error("answered otherwise")
	}
	c.Funcs[0].Ins[0].K = 99
	if again.Funcs[0].Ins[0].K == 99 {
		t.Error("memory is shared")
	}
}

// P9.1: what the scopes refuse.
func TestRefused(t *testing.T) {
	for src, want := range map[string]int{"a\nreturn": 2, "break": 1, "def f(a, a): pass": 1, "\nnonlocal x": 2} {
		if c, line, e := Lower(tree(t, src)); e != api.ErrScope || line != want || c.Funcs != nil {
			t.Errorf("%q: %d at %d", src, e, line)
		}
	}
}

// P9.3: lines are for OLine alone; hidden names' texts are for nothing.
func TestLines(t *testing.T) {
	src := "a = 1\nwhile a:\n  a -= 1\nb = [c for c in a]"
	one, _, _ := Lower(tree(t, src))
	two, _, _ := Lower(tree(t, strings.ReplaceAll("\n\n"+src, "\n", "\n\n")))
	three, _, _ := Lower(tree(t, strings.ReplaceAll(src, "c for c", "d for d")))
	for i := range two.Funcs[0].Ins {
		if two.Funcs[0].Ins[i].Op == api.OLine {
			two.Funcs[0].Ins[i].K = one.Funcs[0].Ins[i].K
		}
	}
	if !reflect.DeepEqual(one, two) || !reflect.DeepEqual(one, three) {
		t.Error("codes are unlike")
	}
}

// P1: any tree ends.
func TestAnyTree(t *testing.T) {
	for kind := -1; kind < 70; kind++ {
		for _, kids := range [][]api.Node{nil, {{Kind: kind}}, {{}, {Kind: kind}}, {{Kind: api.NName, Text: "a"}, {Kind: kind, Kids: []api.Node{{Kind: kind}}}, {Kind: kind}}} {
			odd := api.Node{Kind: kind, Text: "a", Kids: kids}
			Lower(odd)
			for _, round := range []int{api.NBlock, api.NClass, api.NWhile, api.NTry, api.NDef, api.NListFor, api.NExpr, api.NHandler, api.NFor} {
				Lower(api.Node{Kind: api.NBlock, Kids: []api.Node{{Kind: round, Kids: []api.Node{odd, odd, odd}}}})
			}
		}
	}
}
