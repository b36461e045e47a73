package machine

import (
	"reflect"
	"strconv"
	"strings"
	"testing"

	"scree/api"
)

// P21.1, P21.2: scripts, run with memories of all sizes.
func TestScripts(t *testing.T) {
	for _, c := range []struct{ src, want string }{
		{`print(0.1 + 0.2, 1e16, -0.0, float("nan"))`, "0.30000000000000004 1e+16 -0.0 nan"},
		{"x = {1: \"a\", 1.0: \"b\", True: \"c\"}\nprint(x)", "{1: 'c'}"},
		{"n = float(\"nan\")\nx = [n]\nprint(x == x, x[0] == x[0], n in x, n is n)", "True False False True"},
		{"def f(n):\n  return 1 if n < 2 else n * f(n - 1)\nprint(f(30))", "265252859812191058636308480000000"},
		{"print(-7 // 2, -7 % 2, -7.5 // 2, 5 % -0.5, 2 ** 100)", "-4 1 -4.0 -0.0 1267650600228229401496703205376"},
		{"def g(n):\n  for i in range(n):\n    yield i\nprint([x * x for x in g(4)])", "[0, 1, 4, 9]"},
		{"try:\n  1 // 0\nexcept ZeroDivisionError as e:\n  print(\"no\", e)\nfinally:\n  print(\"done\")", "no /done"},
		{"a, (b, c) = 1, [2, \"x\"]\nprint(c, b, a)", "x 2 1"},
		{"fs = [lambda: i for i in range(3)]\nprint([f() for f in fs])", "[2, 2, 2]"},
		{"class A:\n  v = 1\nclass B(A):\n  pass\nb = B()\nb.v += 1\nprint(b.v, A.v, isinstance(b, A))", "2 1 True"},
		{"1 // 0", `raise ZeroDivisionError "" at 1`},
		{"\nraise ValueError('x')", `raise ValueError "x" at 2`},
		{"raise ValueError('x', 1)", `raise ValueError "('x', 1)" at 1`},
		{"raise ValueError", `raise ValueError "" at 1`},
		{"raise 5", `raise TypeError "" at 1`},
		{"raise print", `raise TypeError "" at 1`},
		{"class A: pass\nraise A", `raise TypeError "" at 2`},
		{"class E(ValueError): pass\ntry:\n  raise E([1])\nexcept ValueError as e:\n  print(e, e.args, isinstance(e, E))\nraise E([1])", `[1] ([1],) True/raise E "[1]" at 6`},
		{"e = ValueError('x')\ne.args = 5\nprint(e)\ne.args = ('y', 'z')\nprint(e)\ndel e.args\nprint(e)\nraise e", `/('y', 'z')//raise ValueError "" at 8`},
		{"x = 1\ndel x\nx", `raise NameError "" at 3`}, {"del x", `raise NameError "" at 1`}, {"def f():\n  x\n  x = 1\nf()", `raise NameError "" at 4`}, {"def f():\n  x = 1\n  del x\n  del x\nf()", `raise NameError "" at 5`},
		{"def f():\n  def g(): return x\n  try: g()\n  except NameError: print('no')\n  x = 5\n  print(g())\n  del x\n  try: g()\n  except NameError: print('gone')\n  def h(): return x\n  x = 6\n  print(g(), h())\nf()", "no/5/gone/6 6"},
		{"def f():\n  n = 0\n  def up():\n    nonlocal n\n    n += 1\n    return n\n  return up\na = f()\nb = f()\nprint(a(), a(), b(), a())", "1 2 1 3"},
		{"x = 1\ndef f():\n  global x, y\n  x = 2\n  y = 3\nf()\nprint(x, y)", "2 3"},
		{"len = 5\nprint(len)\ndel len\nprint(len('ab'))", "5/2"},
		{"assert 1\nassert 0", `raise AssertionError "" at 2`},
		{"print(input() + '!')\nprint(input())\ntry: input()\nexcept EOFError: print('end')", "one!/two words/end"},
		{"try:\n  try:\n    1 // 0\n  except KeyError: print('no')\nexcept (KeyError, ZeroDivisionError): print('yes')", "yes"},
		{"try:\n  try: 1 // 0\n  finally: print('f')\nexcept: print('all')", "f/all"},
		{"try: 1 // 0\nexcept 5: print(1)", `raise TypeError "" at 1`}, {"try: 1 // 0\nexcept (ValueError, 5): print(1)", `raise TypeError "" at 1`}, {"try: 1 // 0\nexcept (ZeroDivisionError, 5): print(1)", `raise TypeError "" at 1`}, {"class A: pass\ntry: 1 // 0\nexcept A: print(1)", `raise TypeError "" at 2`}, {"try: 1 // 0\nexcept (): print(1)", `raise ZeroDivisionError "" at 1`}, {"try: 1 // 0\nexcept ((ZeroDivisionError,),): print(1)", `raise TypeError "" at 1`},
		{"try:\n  try: 1 // 0\n  except ZeroDivisionError as e: raise\nexcept Exception as f: print(e is f)", "True"},
		{"def f():\n  for i in range(9):\n    try:\n      if i == 1: continue\n      if i == 3: break\n      if i == 5: return 'no'\n    finally:\n      print(i)\n  return 'yes'\nprint(f())", "0/1/2/3/yes"},
		{"def f():\n  try: return 1\n  finally: return 2\nprint(f())\ndef g():\n  while True:\n    try: return 1\n    finally: break\n  return 3\nprint(g())\ndef h():\n  try: 1 // 0\n  finally: return 4\nprint(h())", "2/3/4"},
		{"def f():\n  try:\n    try: return 1\n    finally: print('a')\n  finally: print('b')\nprint(f())\ndef g():\n  try:\n    try: 1 // 0\n    except ZeroDivisionError: return 'r'\n    finally: print('c')\n  finally: print('d')\nprint(g())", "a/b/1/c/d/r"},
		{"class C:\n  def __init__(self, s): self.s = s\n  def __enter__(self):\n    print('in')\n    return 7\n  def __exit__(self, e):\n    print('out', e)\n    return self.s\ndef f():\n  for i in range(3):\n    with C(i == 0) as c:\n      if i == 0: raise ValueError(c)\n      if i == 1: continue\n      return i\nprint(f())\nwith C(False): 1 // 0", `in/out 7/in/out None/in/out None/2/in/out /raise ZeroDivisionError "" at 16`},
		{"with 5: pass", `raise AttributeError "" at 1`}, {"class C:\n  def __exit__(self, e): print('exit')\nwith C(): pass", `raise AttributeError "" at 3`},
		{"def g():\n  try:\n    x = yield 1\n    print(x)\n    yield 2\n  finally: print('fin')\ni = g()\nprint(next(i), next(i))\ntry: next(i)\nexcept StopIteration: print('stop')\ntry: next(i)\nexcept StopIteration: print('again')\nfor x in i: print('never')", "None/1 2/fin/stop/again"},
		{"def g():\n  yield 1\n  raise StopIteration\nfor x in g(): print(x)", `1/raise StopIteration "" at 4`},
		{"def g():\n  yield next(i)\ni = g()\ntry: next(i)\nexcept ValueError: print('running')\ntry: next(i)\nexcept StopIteration: print('finished')", "running/finished"},
		{"def g():\n  1 // 0\n  yield 1\ni = g()\ntry:\n  for x in i: pass\nexcept ZeroDivisionError: print('z')\nfor x in i: print(x)", "z"},
		{"def g(n):\n  if n > 0:\n    yield n\n    for x in g(n - 1): yield x\nprint([x for x in g(6)])", "[6, 5, 4, 3, 2, 1]"},
		{"def f(n): return f(n + 1)\ntry: f(0)\nexcept RuntimeError: print('deep')", "deep"},
		{"n = 0\ndef f():\n  global n\n  n += 1\n  f()\ntry: f()\nexcept RuntimeError: print(n)", "59"},
		{"n = 0\ndef g():\n  global n\n  n += 1\n  for x in g(): yield x\ntry:\n  for x in g(): pass\nexcept RuntimeError: print(n)", "59"},
		{"class A:\n  def __next__(self): raise StopIteration\na = A()\nfor x in a: pass", `raise TypeError "" at 4`},
		{"class A:\n  def __init__(self): self.n = 0\n  def __iter__(self): return self\n  def __next__(self):\n    self.n += 1\n    if self.n > 3: raise StopIteration\n    return self.n\nfor x in A(): print(x)\nprint([x for x in A()])\ni = iter(A())\nprint(next(i), next(i), next(i))\ntry: next(i)\nexcept StopIteration: print('stop')", "1/2/3/[1, 2, 3]/1 2 3/stop"},
		{"class S(StopIteration): pass\nclass A:\n  def __iter__(self): return self\n  def __next__(self): raise S\nfor x in A(): print(x)\nprint('end')", "end"},
		{"class A:\n  def __iter__(self): return 5\nfor x in A(): pass", `raise TypeError "" at 3`}, {"class A:\n  def __iter__(self): return [1]\nfor x in A(): pass", `raise TypeError "" at 3`}, {"class A:\n  def __iter__(self):\n    yield 1\n    yield 2\nprint([x for x in A()])", "[1, 2]"}, {"class A:\n  def __iter__(self): return iter([7])\nfor x in A(): print(x)\nprint(next(iter(A())))", "7/7"},
		{"class A:\n  def __len__(self): return self.n\na = A()\nfor n in [3, True, -1, 'x', None]:\n  a.n = n\n  try: print(len(a))\n  except TypeError: print('T')", "3/True/T/T/T"},
		{"class A:\n  def __str__(self): return self.n\na = A()\na.n = 'hi'\nprint(str(a), a)\na.n = 5\nstr(a)", `hi <A>/raise TypeError "" at 7`}, {"class E(ValueError):\n  def __str__(self): return 'own'\nprint(str(E(1)), E(2))", "own 2"},
		{"class A:\n  def __add__(self, o): return ('add', o)\n  def __sub__(self, o): return ('sub', o)\n  def __mul__(self, o): return ('mul', o)\n  def __eq__(self, o): return []\n  def __lt__(self, o): return ['lt']\n  def __contains__(self, o): return o\n  def __getitem__(self, i): return ('get', i)\n  def __setitem__(self, i, v):\n    print('set', i, v)\n    return 9\n  def __call__(self, x, y): return x - y\na = A()\nprint(a + 1, a - 2, a * 3, a == 4, a != 5, a < 6, 0 in a, 1 not in a, a[7], a(9, 1))\na[1] = 2\nfor op in [lambda: 1 + a, lambda: a / 1, lambda: a > 1, lambda: a <= 1]:\n  try: print(op())\n  except TypeError: print('T')\nprint(1 == a, a is a)", "('add', 1) ('sub', 2) ('mul', 3) [] True ['lt'] False False ('get', 7) 8/set 1 2/T/T/T/T/False True"},
		{"class A:\n  __add__ = 5\n  __call__ = len\na = A()\ntry: a + 1\nexcept TypeError: print('no')\na()", `no/raise TypeError "" at 7`}, {"class A: pass\na = A()\na.__add__ = lambda x: x\na + 1", `raise TypeError "" at 4`}, {"class B:\n  def __add__(self, o): return o\nclass A(B):\n  __add__ = None\nA() + 1", `raise TypeError "" at 5`},
		{"class A:\n  def __init__(self): return 5\nA()", `raise TypeError "" at 3`}, {"class A:\n  def __init__(self):\n    yield 1\nA()", `raise TypeError "" at 4`}, {"class A:\n  def __init__(self, x): pass\nA()", `raise TypeError "" at 3`}, {"class E(ValueError):\n  def __init__(self, x): self.y = x\ne = E(3)\nprint(e.y, e.args, e)", "3 (3,) 3"},
		{"class A: x = 1\nclass B(A): y = 2\nclass C(A): x = 3\nclass D(B, C): pass\nprint(D.x, D.y, D().x)\nA.x = 9\nC.z = 4\nprint(B.x, D.z)\ndel C.x\nprint(D.x)\nD.x", "3 2 3/9 4/9"},
		{"class A: pass\nclass B(A): pass\nclass C(A, B): pass", `raise TypeError "" at 3`}, {"class A(5): pass", `raise TypeError "" at 1`}, {"class A(int): pass", `raise TypeError "" at 1`}, {"class A: pass\nclass B(A, A): pass", `raise TypeError "" at 2`}, {"class A(ValueError, KeyError): pass\ntry: raise A(1)\nexcept KeyError as e: print(e)", "1"},
		{"ValueError.x = 1", `raise TypeError "" at 1`}, {"del ValueError.x", `raise TypeError "" at 1`}, {"x = []\nx.y = 1", `raise AttributeError "" at 2`}, {"class A: pass\ndel A.x", `raise AttributeError "" at 2`}, {"class A: pass\na = A()\na.x = 1\ndel a.x\ndel a.x", `raise AttributeError "" at 5`}, {"class A: x = 1\na = A()\ndel a.x", `raise AttributeError "" at 3`},
		{"l = [1, 2, 3, 4]\ndel l[1]\ndel l[-1]\nprint(l)\nl[0] = 9\nl[True] += 1\nprint(l)\ndel l[5]", `[1, 3]/[9, 4]/raise IndexError "" at 8`}, {"t = (1,)\nt[0] = 1", `raise TypeError "" at 2`}, {"t = (1,)\ndel t[0]", `raise TypeError "" at 2`}, {"'a'[0] = 'b'", `raise TypeError "" at 1`}, {"l = []\nl[0] = 1", `raise IndexError "" at 2`}, {"d = {}\nd[[]] = 1", `raise TypeError "" at 2`}, {"d = {}\ndel d[1]", `raise KeyError "" at 2`}, {"d = {1: 2, 3: 4}\ndel d[1.0]\nd[5] = 6\nd[True] = 7\nprint(d)", "{3: 4, 5: 6, True: 7}"}, {"s = {1, 2}\ns.add(3)\ns.discard(1.0)\ns.add(1)\nprint(s)\nprint([x for x in s])", "{2, 3, 1}/[2, 3, 1]"},
		{"l = [1, 2]\ni = iter(l)\nprint(next(i))\nl.append(3)\nprint(next(i), next(i))\ntry: next(i)\nexcept StopIteration: print('s')\nl.append(4)\nprint(next(i))\nl.pop()\nl.pop()\nprint(list(i))\nl.append(7)\nl.append(8)\nl.append(9)\nprint(list(i), list(i))", "1/2 3/s/4/[]/[9] []"},
		{"i = iter([1, [], 2])\ntry: set(i)\nexcept TypeError: print('T')\nprint(list(i))\nj = iter(range(30000))\nnext(j)\ntry: list(j)\nexcept OverflowError: print(next(j))\nk = iter('abc')\nnext(k)\nprint(list(k), list(k))\nr = iter(range(10, 0, -3))\nprint(next(r), list(r), list(r))", "T/[]/1/['b', 'c'] []/10 [7, 4, 1] []"},
		{"d = {1: 2}\nfor k in d:\n  d[k + 1] = 0\n  if k > 3: break\nprint(d)\ni = iter(d)\nd[9] = 9\nprint(list(i))", "{1: 2, 2: 0}/[1, 2]"},
		{"f = [1].append\ng = {}.get\nprint(f(2), g(3))\nclass A:\n  def m(self): return self\na = A()\nm = a.m\nprint(m() is a, A.m(5))", "None None/True 5"},
		{"print(hash(lambda: 1), hash(lambda: 2))\nclass A: pass\nprint(hash(A), hash(A()), hash(A()))\ntry: 1 // 0\nexcept Exception: pass\nprint(hash(A()))\nclass B: pass\ntry: B(5)\nexcept TypeError as e: print(hash(B), hash(e))\nprint(hash(B()))", "14 15/16 17 18/20/21 23/24"},
		{"x = y = [1]\nx.append(2)\nprint(y, x is y)\na = b, c = 1, 2\nprint(a, b, c)\n[p, [q]] = (5, 'z')\nprint(p, q)\na, b = 5", `[1, 2] True/(1, 2) 1 2/5 z/raise TypeError "" at 8`}, {"a, b = 1, 2, 3", `raise ValueError "" at 1`}, {"a, b = {1: 2}", `raise TypeError "" at 1`},
		{"x = 5\nx -= 2\nx **= 3\nx //= 2\nx %= 8\nx *= 1.5\nx /= 3\nprint(x)\ns = 'a'\ns += 'b'\nprint(s)\nl = [1]\nm = l\nl += [2]\nprint(l, m)", "2.5/ab/[1, 2] [1]"},
		{"print([[x, y] for x in range(3) if x for y in range(x)], {x for x in 'aab'}, {k: v for k, v in [(1, 2)]})\nx = 'out'\nprint([x for x in [1, 2]], x)\nprint([[y for y in range(x)] for x in range(3)])", "[[1, 0], [2, 0], [2, 1]] {'a', 'b'} {1: 2}/[1, 2] out/[[], [0], [0, 1]]"},
		{"def f(x):\n  return lambda y: lambda z: (x, y, z)\nprint(f(1)(2)(3))\ndef g(a):\n  def h():\n    nonlocal a\n    a += 1\n    return a\n  h()\n  return (a, h(), a)\nprint(g(1))", "(1, 2, 3)/(2, 3, 3)"},
		{"print(1 and 0 or 5, 0 or '', None and 1, not 0 and 2)\nprint(1 if 0 else 2, [] or [3])\ndef f(x):\n  print('f', x)\n  return x\nprint(f(1) < f(0) < f(5), f(1) < f(2) < f(3))", "5  None 2/2 [3]/f 1/f 0/f 1/f 2/f 3/False True"},
		{"while True:\n  print(1)\n  break\nelse_ = 2\nfor i in []: pass\nprint(else_)", "1/2"},
		{"def f(): pass\nprint(f())\ndef g(): return\nprint(g())", "None/None"},
		{"x = [0]\nx[0] = x\ntry: print(x)\nexcept RuntimeError: print('deep')\ntry: hash((x,))\nexcept TypeError: print('hash')\ny = [0]\ny[0] = y\ntry: x == y\nexcept RuntimeError: print('eq')\ntry: x < y\nexcept RuntimeError: print('lt')", "deep/hash/eq/lt"},
		{"", ""}, {"pass", ""}, {"'doc'\n5\nNone", ""},
	} {
		run(t, c.src, c.want)
	}
}

// P21.3: with less fuel a run is the same up to where it ends, and what it used is what it was given.
func TestFuel(t *testing.T) {
	src := "def f(n):\n  if n: return f(n - 1)\n  return 0\ndef g():\n  for i in range(3): yield i\nfor x in g():\n  print(x, f(x))\ntry: 1 // 0\nexcept: print('e')\nwhile x < 5: x += 1\nprint(x)"
	c := codes(t, src)[1]
	full := Run(c, api.Config{Fuel: 5000, Words: 20000})
	if full.End != api.EndOK || full.Fuel < 40 {
		t.Fatal(full)
	}
	for fuel := range full.Fuel + 3 {
		r := Run(c, api.Config{Fuel: fuel, Words: 20000})
		if fuel >= full.Fuel {
			if !reflect.DeepEqual(r, full) {
				t.Errorf("%d units: %v", fuel, r)
			}
			continue
		}
		if r.End != api.EndFuel || r.Fuel != fuel || len(r.Out) > len(full.Out) || strings.Join(r.Out, "/") != strings.Join(full.Out[:len(r.Out)], "/") || r.Class != "" || r.Text != "" {
			t.Errorf("%d units: %v", fuel, r)
		}
	}
	for src, want := range map[string]api.Report{
		"":                     {End: api.EndOK},
		"a = 1":                {End: api.EndFuel},
		"\n\npass\npass\npass": {End: api.EndFuel, Line: 4, Fuel: 2},
	} {
		fuel := want.Fuel
		if got := Run(codes(t, src)[0], api.Config{Fuel: fuel, Words: 5000}); !reflect.DeepEqual(got, want) {
			t.Errorf("%q: %v", src, got)
		}
	}
	if r := Run(codes(t, "print(1)")[0], api.Config{Fuel: 9, Words: 5000}); r.Fuel != 1 || r.Line != 0 {
		t.Error(r)
	}
	if r := Run(codes(t, "def f():\n\n  1 // 0\n\nx = 1\nf()")[0], api.Config{Fuel: 99, Words: 5000}); r.Line != 6 {
		t.Error(r)
	}
	for src, want := range map[string]int{"for i in range(3): pass": 8, "def f(): pass\nf()": 4, "def g(): yield\nfor x in g(): pass": 6, "next(iter([1]))": 1, "[x for x in range(5)]": 7, "class A:\n  def __init__(self): pass\nA()": 5} {
		if r := Run(codes(t, src)[1], api.Config{Fuel: 99, Words: 5000}); r.Fuel != want || r.End != api.EndOK {
			t.Errorf("%q: %v, want %d", src, r, want)
		}
	}
}

// P21.3: lines of input that aren't asked for; the edges of a line.
func TestInputs(t *testing.T) {
	src := "print(input())"
	one := Run(codes(t, src)[0], api.Config{Fuel: 9, Words: 9000, Inputs: []string{"a"}})
	two := Run(codes(t, src)[0], api.Config{Fuel: 9, Words: 9000, Inputs: []string{"a", "b"}})
	if !reflect.DeepEqual(one, two) || one.Out[0] != "a" {
		t.Error(one, two)
	}
	edge := "try: print(len(input()))\nexcept OverflowError: print('O')\nprint(len(input()))"
	r := Run(codes(t, edge)[0], api.Config{Fuel: 19, Words: 19000, Inputs: []string{strings.Repeat("x", 20001), "b"}})
	if tell(r) != `O/raise OverflowError "" at 3` {
		t.Error(tell(r))
	}
	r = Run(codes(t, edge)[0], api.Config{Fuel: 19, Words: 19000, Inputs: []string{strings.Repeat("x", 20000), ""}})
	if tell(r) != "20000/0" {
		t.Error(tell(r))
	}
}

// All lines together.
func TestMaxOut(t *testing.T) {
	src := "s = 'x' * 19999\nfor i in range(5): print(s)\ntry: print()\nexcept OverflowError: print_ = 1\nraise ValueError(i)"
	r := Run(codes(t, src)[0], api.Config{Fuel: 99, Words: 19000})
	if len(r.Out) != 5 || r.Text != "4" {
		t.Error(len(r.Out), r.Class, r.Text)
	}
	r = Run(codes(t, "s = 'x' * 19999\nfor i in range(4): print(s)\nprint(s[:-1])\nprint()\nprint()")[0], api.Config{Fuel: 99, Words: 19000})
	if len(r.Out) != 6 || r.Class != "OverflowError" || r.Line != 5 {
		t.Error(len(r.Out), r.Class, r.Line)
	}
}

// The order of a class has at most 200 classes.
func TestMaxOrder(t *testing.T) {
	src := "class C0: pass\n"
	for i := 1; i <= 200; i++ {
		src += "class C" + strconv.Itoa(i) + "(C" + strconv.Itoa(i-1) + "): pass\n"
	}
	r := Run(codes(t, src)[1], api.Config{Fuel: 9999, Words: 1 << 20})
	if r.Class != "RuntimeError" || r.Line != 201 {
		t.Error(r)
	}
	wide := "class X(C198): pass\nclass Y: pass\ntry:\n  class Z(X, Y): pass\nexcept RuntimeError: print('R')\ntry:\n  class Z(C5, C100): pass\nexcept TypeError: print('T')\nclass W(C197, Y): pass\nprint(isinstance(W(), C3))"
	r = Run(codes(t, strings.Join(strings.Split(src, "\n")[:199], "\n")+"\n"+wide)[1], api.Config{Fuel: 9999, Words: 1 << 20})
	if tell(r) != "R/T/True" {
		t.Error(tell(r))
	}
}

// As many globals and attributes as there may be.
func TestManyNames(t *testing.T) {
	f := api.Func{Regs: 2, Ins: []api.Ins{{Op: api.OLit}}}
	for i := range 20000 {
		f.Names = append(f.Names, "n"+strconv.Itoa(i))
		f.Ins = append(f.Ins, api.Ins{Op: api.OSetG, K: i})
	}
	f.Names = append(f.Names, "more", "n7")
	f.Ins = append(f.Ins, api.Ins{Op: api.OSetG, K: 20001}, api.Ins{Op: api.OSetG, K: 20000}, api.Ins{Op: api.OReturn})
	r := Run(api.Code{Funcs: []api.Func{f}}, api.Config{Words: 1 << 20})
	if r.End != api.EndRaise || r.Class != "OverflowError" {
		t.Error(r.End, r.Class)
	}
}
