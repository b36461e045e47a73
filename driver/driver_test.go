package driver

import (
	"reflect"
	"strings"
	"testing"

	"scree/api"
	"scree/code"
	"scree/lower"
	"scree/machine"
	"scree/parse"
	"scree/show"
)

var right = api.Config{Fuel: 3000, Words: 30000, Inputs: []string{"i"}}

// P22.2, P22.3, P22.1: what is rejected.
func TestReject(t *testing.T) {
	for src, want := range map[string]struct {
		class string
		line  int
		err   api.Errno
	}{
		"x = (": {"SyntaxError", 1, api.ErrSyntax}, "return": {"ScopeError", 1, api.ErrScope}, "a\n\n  007": {"LexError", 3, api.ErrLex}, "if a:\n  b\n c": {"IndentError", 3, api.ErrIndent}, strings.Repeat(" ", 20001): {"SizeError", 0, api.ErrSize}, strings.Repeat("-", 70) + "a": {"DepthError", 0, api.ErrDeep}, "print(1)\nbreak": {"ScopeError", 2, api.ErrScope}, "a = = b": {"SyntaxError", 1, api.ErrSyntax},
	} {
		if r := Run([]byte(src), right); !reflect.DeepEqual(r, api.Report{End: api.EndReject, Class: want.class, Line: want.line}) {
			t.Errorf("%.20q: %v", src, r)
		}
		if c, line, e := Compile([]byte(src)); c.Funcs != nil || line != want.line || e != want.err {
			t.Errorf("%.20q: %d at %d", src, e, line)
		}
		if Class(want.err) != want.class {
			t.Errorf("Class(%d) = %s", want.err, Class(want.err))
		}
	}
	for e := api.Errno(-1); e < 40; e++ {
		if (e < api.ErrLex || e > api.ErrSize) && e != api.ErrDeep && Class(e) != "" {
			t.Errorf("Class(%d) = %s", e, Class(e))
		}
	}
}

// P22.3: what isn't right goes ahead of what is rejected.
func TestArg(t *testing.T) {
	for _, g := range []api.Config{{Fuel: -1, Words: 9000}, {Fuel: 1000001, Words: 9000}, {Words: 1}, {Words: 1<<20 + 1}, {Words: 9000, Inputs: make([]string, 1001)}} {
		for _, src := range []string{"", "x = ("} {
			if r := Run([]byte(src), g); !reflect.DeepEqual(r, api.Report{End: api.EndArg}) {
				t.Errorf("%v: %v", g, r)
			}
		}
	}
}

// P22.3: the chapter's examples.
func TestRun(t *testing.T) {
	for src, want := range map[string]api.Report{
		"print(1)": {Out: []string{"1"}, Fuel: 1}, "": {}, "# x": {},
		"def f(n):\n  return 1 if n < 2 else n * f(n - 1)\nprint(f(20))":                             {Out: []string{"2432902008176640000"}, Fuel: 42},
		"try:\n  raise ValueError(\"a\")\nexcept ValueError as e:\n  print(e)\nfinally:\n  print(2)": {Out: []string{"a", "2"}, Fuel: 4},
		"print(input())\nraise KeyError(2)":                                                          {Out: []string{"i"}, End: api.EndRaise, Class: "KeyError", Text: "2", Line: 2, Fuel: 2},
		"while True: pass":                                                                           {End: api.EndFuel, Line: 1, Fuel: 3000},
		"l = []\nwhile True: l = [l]":                                                                {End: api.EndFuel, Line: 2, Fuel: 3000},
		"l = 'x'\nwhile True: l += l\n":                                                              {End: api.EndRaise, Class: "OverflowError", Line: 2, Fuel: 17},
		"l = [0] * 9000\nwhile True: l = [list(l), l]\n":                                             {End: api.EndHeap, Line: 2, Fuel: 4},
	} {
		r := Run([]byte(src), right)
		if want.End == api.EndHeap {
			want.Fuel = r.Fuel
		}
		if !reflect.DeepEqual(r, want) {
			t.Errorf("%q: %v, want %v", src, r, want)
		}
	}
}

const script = `# a script of many parts
class Node:
  def __init__(self, v, kids):
    self.v = v
    self.kids = kids
  def __iter__(self):
    yield self.v
    for k in self.kids:
      for x in k: yield x
tree = Node(1, [Node(2, [Node(3, [])]), Node(4, [])])

print([x for x in tree], sum_ if False else "none")
def memo(f):
  seen = {}
  def g(n):
    if n not in seen:
      seen[n] = f(n)
    return seen[n]
  return g
fib = memo(lambda n: n if n < 2 else fib(n - 1) + fib(n - 2))
print(fib(25), {k % 3 for k in range(10)})
try:
  for i in range(3):
    try:
      if i == 2: raise KeyError(i)
      continue
    finally: print("i", i)
except KeyError as e: print("caught", e)
assert tree.v == 1
print(fib(30) // 0)
`

// P22.1, P22.4: in form, within the bounds, and doing what the scheme's code does; empty lines, comments and the way it is shown count for lines alone.
func TestSameMeaning(t *testing.T) {
	c, line, e := Compile([]byte(script))
	if e != api.OK || line != 0 {
		t.Fatal(e, line)
	}
	if _, _, e := code.Check(c); e != api.OK {
		t.Error("not in form")
	}
	for i, f := range c.Funcs {
		if f.Regs > f.Bound {
			t.Errorf("function %d has %d registers above %d", i, f.Regs, f.Bound)
		}
	}
	want := Run([]byte(script), right)
	if strings.Join(want.Out, "/") != "[1, 2, 3, 4] none/75025 {0, 1, 2}/i 0/i 1/i 2/caught 2" || want.Class != "ZeroDivisionError" || want.Line != 30 {
		t.Fatal(want)
	}
	n, _, _ := parse.Source([]byte(script))
	scheme, _, _ := lower.Lower(n)
	if r := machine.Run(scheme, right); !reflect.DeepEqual(r, want) {
		t.Error(r)
	}
	shown, _ := show.Show(n)
	for _, src := range []string{shown, strings.ReplaceAll(script, "\n", "\n   # more\n\n"), strings.ReplaceAll(script, ":\n", ":    # x\n")} {
		r := Run([]byte(src), right)
		r.Line = want.Line
		if !reflect.DeepEqual(r, want) {
			t.Error(r)
		}
	}
}

// P22.5.
func TestMemory(t *testing.T) {
	src := []byte("print(input())")
	g := api.Config{Fuel: 9, Words: 9000, Inputs: []string{"a"}, Force: []int{1, 2}}
	a := Run(src, g)
	a.Out[0] = "z"
	b := Run(src, g)
	if string(src) != "print(input())" || g.Inputs[0] != "a" || g.Force[0] != 1 || b.Out[0] != "a" {
		t.Error("memory is shared")
	}
}

// P18.5: the Quote of a whole value is read by a source as that value.
func TestQuotesAreSources(t *testing.T) {
	for _, text := range []string{"None", "True", "[1, -2, 3.5, 1e+16, -0.0, 'a\\'\\n\\xc8\\\\']", "(1,)", "()", "{'a': [], 2: (3, 4)}", "{1, 'b'}", "set()", "{}", "range(1, -5, -2)", "1000000000000000000000", "''", "'\\t\"'", "[[[]]]", "{(): {1: {2}}}", "1.5e-07", "5e-324"} {
		r := Run([]byte("x = "+text+"\nprint(repr(x))"), right)
		if r.End != api.EndOK || r.Out[0] != text {
			t.Errorf("%s: %v", text, r)
		}
	}
}
