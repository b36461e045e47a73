package scope

import (
	"reflect"
	"strings"
	"testing"

	"scree/api"
	"scree/parse"
	"scree/show"
)

func tree(t *testing.T, src string) api.Node {
	t.Helper()
	n, line, e := parse.Source([]byte(src))
	if e != api.OK {
		t.Fatalf("%q: %d at %d", src, e, line)
	}
	return n
}

// tell writes scopes in short: name parent params/locals/cells/frees, and ! of a generator.
func tell(scopes []api.Scope) string {
	out := []string{}
	for _, s := range scopes {
		x := s.Name + " " + string(rune('0'+s.Parent)) + " " + strings.Join(s.Params, ",") + "/" + strings.Join(s.Locals, ",") + "/" + strings.Join(s.Cells, ",") + "/" + strings.Join(s.Frees, ",")
		if s.Gen {
			x += "!"
		}
		out = append(out, x)
	}
	return strings.Join(out, "; ")
}

// P7.2: where names live.
func TestScopes(t *testing.T) {
	for src, want := range map[string]string{
		"def f(a):\n  b = a\n  return lambda c: a + b + c + d":                                                  "f 0 a/b/a,b/; lambda 1 c///a,b",
		"def f():\n  x = 1\n  def g():\n    def h():\n      nonlocal x\n      x = 2":                            "f 0 /x,g/x/; g 1 /h//x; h 2 ///x",
		"def f():\n  for i in a: yield i":                                                                       "f 0 /i//!",
		"class A:\n  def m(self): pass":                                                                         "m 0 self///",
		"a = b = 1":                                                                                             "",
		"def f():\n  a, (b, [c]) = d\n  e[h] = i.j = k\n  del l\n  del m.n\n  o += p":                           "f 0 /a,b,c,l,o//",
		"def f():\n  with a as b: pass\n  try: pass\n  except c as d: pass\n  class e: g = 1":                   "f 0 /b,d,e//",
		"def f():\n  global a\n  a = 1\n  b = 1\n  def h():\n    a + b":                                         "f 0 /b,h/b/; h 1 ///b",
		"def f(a):\n  def g():\n    global a\n    def h():\n      return a":                                     "f 0 a/g//; g 1 /h//; h 2 ///",
		"def f(a, b):\n  b = a\n  def g(): return b, a":                                                         "f 0 a,b/g/a,b/; g 1 ///b,a",
		"def f():\n  a = [b for b in c]":                                                                        "f 0 /a,b.1//",
		"def f():\n  for a[[b for b in c]] in d: pass":                                                          "f 0 /b.1//",
		"def f():\n  a[[b for b in c]], d = e":                                                                  "f 0 /d,b.1//",
		"def f():\n  [[i for j in k] for i in [m for m in n]]":                                                  "f 0 /j.2,i.1,m.3//",
		"def f(x):\n  class A:\n    x = x\n    y = z\n    def g(self): return x":                                "f 0 x/A/x/; g 1 self///x",
		"def f():\n  def g():\n    return x + y\n  y = 1\n  x = 1":                                              "f 0 /g,y,x/y,x/; g 1 ///x,y",
		"def f():\n  x = 1\n  y = 2\n  def g():\n    nonlocal x\n    def h():\n      return y, x\n    return z": "f 0 /x,y,g/x,y/; g 1 /h//x,y; h 2 ///y,x",
		"def f():\n  x = 1\n  def g():\n    nonlocal x\n    def x(): pass":                                      "f 0 /x,g/x/; g 1 ///x; x 2 ///",
		"lambda a: lambda b: a":                                                                                 "lambda 0 a//a/; lambda 1 b///a",
		"def f(a, b,): yield":                                                                                   "f 0 a,b///!",
		"def f():\n  def g(): yield":                                                                            "f 0 /g//; g 1 ///!",
		"def f():\n  x = yield":                                                                                 "f 0 /x//!",
	} {
		got, line, e := Check(tree(t, src))
		if want != "" {
			want = "; " + want
		}
		if tell(got) != "main / ///"+want || line != 0 || e != api.OK {
			t.Errorf("%q: %s (%d, %d); want %s", src, tell(got), line, e, want)
		}
	}
	got, _, _ := Check(tree(t, "x = [lambda: y + x for y in x]\nz = {a: b for a, b in c}"))
	if tell(got) != "main / /y.1,a.2,b.2/y.1/; lambda 0 ///y.1" {
		t.Error(tell(got))
	}
}

// P7.1.
func TestRename(t *testing.T) {
	for src, want := range map[string]string{
		"x = [y + x for y in x]":                                  "x = [y.1 + x for y.1 in x]",
		"[x for x in x for y in x]":                               "[x.1 for x.1 in x for y.1 in x.1]",
		"[[x for x in x] for x in x]":                             "[[x.2 for x.2 in x.1] for x.1 in x]",
		"{x: lambda x: x + y for x, (y, [z]) in x if z}":          "{x.1: lambda x: x + y.1 for (x.1, (y.1, [z.1])) in x if z.1}",
		"{(lambda x: lambda: x, lambda y: lambda: x) for x in x}": "{(lambda x: lambda: x, lambda y: lambda: x.1) for x.1 in x}",
		"[a for a[b].c in b]":                                     "[a for a[b].c in b]",
		"[i for a[i], i in b]":                                    "[i.1 for (a[i.1], i.1) in b]",
		"[i for i in [i for i in i]]":                             "[i.1 for i.1 in [i.2 for i.2 in i]]",
		"[i for j in k for i in [i for i in i]]":                  "[i.1 for j.1 in k for i.1 in [i.2 for i.2 in i.1]]",
		"f(x, [x for x in y], {x for x in y})":                    "f(x, [x.1 for x.1 in y], {x.2 for x.2 in y})",
		"[[y for y in z if x] for x in y]":                        "[[y.2 for y.2 in z if x.1] for x.1 in y]",
		"[x.x for x in y]":                                        "[x.1.x for x.1 in y]",
	} {
		n := tree(t, src)
		keep, _ := show.Show(n)
		got := Rename(n)
		if after, _ := show.Show(n); after != keep {
			t.Errorf("%q was changed", src)
		}
		if text := words(got); text != words(fake(t, want)) {
			t.Errorf("%q: %s; want %s", src, text, words(fake(t, want)))
		}
	}
}

// fake reads a text whose hidden names are written x.1, by way of names that a source may have.
func fake(t *testing.T, src string) api.Node {
	for _, d := range "123" {
		src = strings.ReplaceAll(src, "."+string(d), "__"+string(d))
	}
	return tree(t, src)
}

// words are the texts and kinds of a tree.
func words(n api.Node) string {
	s := string(rune('A'+n.Kind)) + strings.ReplaceAll(n.Text, ".", "__")
	for _, k := range n.Kids {
		s += " " + words(k)
	}
	return s
}

// P7.2: what may not stand where, and the line of the first.
func TestWrong(t *testing.T) {
	for src, want := range map[string]int{
		"return 1": 1, "a\nyield": 2, "x = yield": 1, "while a: break": 0, "break": 1, "continue": 1, "while a:\n  def f():\n    break": 3, "def f():\n  while a: continue": 0, "for a in b:\n  if c: break": 0, "if a: break": 1, "for a in b: pass\nbreak": 2, "while a:\n  class A:\n    break": 3,
		"raise": 1, "raise a": 0, "try: a\nexcept: raise": 0, "try: raise\nexcept: b": 1, "try: a\nexcept:\n  def f():\n    raise": 4, "try: a\nexcept:\n  while b: raise": 0, "try: a\nexcept: b\nfinally: raise": 3,
		"def f(a, a): pass": 1, "\nlambda a, b, a: c": 2, "def f(a): global a": 1, "def f():\n  global a\n  nonlocal a": 2, "def f(b):\n  def g():\n    nonlocal b\n    global b": 4, "def f():\n  nonlocal x": 2, "nonlocal x": 1, "global x": 0, "def f():\n  global x\n  x = 1": 0,
		"def f(a):\n  nonlocal a": 2, "x = 1\ndef f():\n  nonlocal x": 3, "def f():\n  x = 1\n  def g():\n    nonlocal x": 0, "def f():\n  def g():\n    nonlocal x\n  x = 1": 0, "def f(x):\n  def g():\n    global x\n    def h():\n      nonlocal x": 5, "def f(x):\n  def g():\n    nonlocal x\n    def h():\n      nonlocal x": 0,
		"def f():\n  global x\n  def g():\n    nonlocal x": 4, "[x for x in y]\ndef f():\n  nonlocal x": 3, "def f(g):\n  def h(g):\n    nonlocal g": 3,
		"class A:\n  a.b = 1": 2, "class A:\n  a = b = 1": 2, "class A:\n  a, b = 1": 2, "class A:\n  a += 1": 2, "class A:\n  'x'\n  pass\n  a = 1\n  def f(): pass": 0, "class A:\n  1": 2, "class A:\n  if a: b": 2, "class A:\n  class B: pass": 2, "class A:\n  def f(): return 1": 0, "class A: (a) = 1": 0,
		"class A:\n  x = lambda: a\n  def g(a, a): pass": 3, "def f():\n  def g(a, a): pass\n  return\nreturn": 2, "def f(): yield 1": 0,
	} {
		scopes, line, e := Check(tree(t, src))
		if want == 0 && (e != api.OK || line != 0) || want > 0 && (e != api.ErrScope || line != want || len(scopes) != 0) {
			t.Errorf("%q: %d at %d, want %d", src, e, line, want)
		}
	}
}

// P7.3.
func TestFind(t *testing.T) {
	scopes := []api.Scope{{Locals: []string{"h.1"}}, {Params: []string{"a", "b"}, Locals: []string{"c", "d", "c"}, Cells: []string{"b", "c"}, Frees: []string{"e", "a"}}}
	for _, c := range []struct {
		f    int
		name string
		kind int
		at   int
	}{{1, "a", Local, 0}, {1, "b", Cell, 0}, {1, "c", Cell, 1}, {1, "d", Local, 3}, {1, "e", Free, 0}, {1, "x", Global, 0}, {0, "h.1", Local, 0}, {0, "a", Global, 0}, {2, "a", Global, 0}, {-1, "a", Global, 0}} {
		if k, at := Find(scopes, c.f, c.name); k != c.kind || at != c.at {
			t.Errorf("Find(%d, %s) = %d, %d", c.f, c.name, k, at)
		}
	}
	if k, at := Find(nil, 0, "a"); k != Global || at != 0 {
		t.Error("no scopes")
	}
}

// P7.4: what is free in a function is a cell or free in its parent, and nothing hangs on hidden names' texts.
func TestChain(t *testing.T) {
	src := "def f(a, b):\n  def g(c):\n    def h(): return [lambda: (a, i, c, z) for i in b]\n    return h\n  return lambda: (lambda: b)"
	scopes, _, e := Check(tree(t, src))
	if e != api.OK {
		t.Fatal(e)
	}
	for i, s := range scopes {
		for _, name := range s.Frees {
			if k, _ := Find(scopes, s.Parent, name); k != Cell && k != Free {
				t.Errorf("%s of %d is no cell of %d", name, i, s.Parent)
			}
		}
	}
	if tell(scopes) != "main / ///; f 0 a,b/g/a,b/; g 1 c/h/c/a,b; h 2 /i.1/i.1/a,c,b; lambda 3 ///a,i.1,c; lambda 1 ///b; lambda 5 ///b" {
		t.Error(tell(scopes))
	}
}

// P7.5, P1: nothing is changed or shared; any tree ends.
func TestMemory(t *testing.T) {
	n := tree(t, "def f(a):\n  return [x for x in a]")
	keep := tree(t, "def f(a):\n  return [x for x in a]")
	r := Rename(n)
	r.Kids[0].Kids[0].Kids[0].Text = "z"
	_ = append(r.Kids, api.Node{})
	if !reflect.DeepEqual(n, keep) {
		t.Error("the tree was changed")
	}
	a, _, _ := Check(n)
	b, _, _ := Check(n)
	a[1].Params[0] = "q"
	_ = append(a[1].Locals, "q")
	if b[1].Params[0] != "a" || !reflect.DeepEqual(n, keep) {
		t.Error("memory is shared")
	}
	for kind := -1; kind < 70; kind++ {
		for _, kids := range [][]api.Node{nil, {{Kind: kind}}, {{}, {Kind: kind}}, {{Kind: api.NName, Text: "a"}, {Kind: kind, Kids: []api.Node{{Kind: kind}}}}} {
			odd := api.Node{Kind: kind, Text: "a", Kids: kids}
			Rename(odd)
			Check(odd)
			Check(api.Node{Kind: api.NBlock, Kids: []api.Node{odd, {Kind: api.NClass, Kids: []api.Node{{}, odd}}}})
		}
	}
}
