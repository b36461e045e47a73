package charge

import (
	"testing"

	"scree/api"
	"scree/driver"
)

var some = api.Config{Fuel: 3000, Words: 2, Inputs: []string{"i"}}

func least(t *testing.T, src string) int {
	t.Helper()
	n, e := Least([]byte(src), some)
	if e != api.OK {
		t.Fatalf("%q: %d", src, e)
	}
	return n
}

// P23.1, P23.2: with as many words, or more, a run has enough, with fewer it hasn't.
func TestLeast(t *testing.T) {
	for _, src := range []string{"", "print(1)", "x = [i for i in range(50)]\nprint(x)", "def f(n): return 1 if n < 2 else n * f(n - 1)\nprint(f(40))", "def g(n):\n  for i in range(n): yield str(i)\nprint([x for x in g(9)])", "class A:\n  def __init__(self, x): self.x = x\nl = [A(i) for i in range(9)]\nprint(l[4].x)", "d = {}\nfor i in range(40): d[i] = str(i)\nprint(d)", "1 // 0", "raise ValueError('x' * 500)", "while True: x = [1] * 30", "try: 1 // 0\nexcept Exception as e: print(e)", "print(input())", "x = 10 ** 500\nprint(x)"} {
		n := least(t, src)
		for _, words := range []int{2, 100, n / 2, n - 50, n - 2, n - 1, n, n + 1, n + 2, n + 17, n + 100, 2 * n, 50 * n, 1 << 20} {
			g := some
			g.Words = words
			r := driver.Run([]byte(src), g)
			if (r.End == api.EndHeap) != (words < n) {
				t.Errorf("%q with %d words: %d; least is %d", src, words, r.End, n)
			}
			g.All = true
			if r := driver.Run([]byte(src), g); (r.End == api.EndHeap) != (words < n) && words < 5000 {
				t.Errorf("%q with %d words and all collections: %d; least is %d", src, words, r.End, n)
			}
		}
		for _, g := range []api.Config{{Fuel: 3000, Words: 1 << 20, Inputs: some.Inputs}, {Fuel: 3000, Words: 5000, Force: []int{1, 5, 30}, Inputs: some.Inputs}} {
			if m, e := Least([]byte(src), g); m != n || e != api.OK {
				t.Errorf("%q: %d %d, and %d", src, m, e, n)
			}
		}
	}
}

// P23.1: what isn't answered.
func TestRefused(t *testing.T) {
	for n, c := range []struct {
		src string
		g   api.Config
		err api.Errno
	}{{"", api.Config{Words: 1}, api.ErrForm}, {"", api.Config{Words: 1<<20 + 1}, api.ErrForm}, {"", api.Config{Words: 9, Fuel: -1}, api.ErrForm}, {"", api.Config{Words: 9, Fuel: 1000001}, api.ErrForm}, {"", api.Config{Words: 9, Inputs: make([]string, 1001)}, api.ErrForm}, {"x = (", api.Config{Words: 9}, api.ErrForm}, {"return", api.Config{Words: 9}, api.ErrForm}, {"l = []\nwhile True: l = [l, [0] * 20000]", api.Config{Words: 9, Fuel: 5000}, api.ErrFull}} {
		if m, e := Least([]byte(c.src), c.g); m != 0 || e != c.err {
			t.Errorf("case %d: %d %d", n, m, e)
		}
	}
}

// P23.3: memory is wanted only where it is used.
func TestWanted(t *testing.T) {
	empty := least(t, "")
	if one := least(t, "print(1)"); empty <= 100 || empty > 3000 || one <= 100 || one > 3000 {
		t.Error(empty, one)
	}
	for src, most := range map[string]int{
		"for i in range(900): x = [i] * 40":                                                  300,
		"for i in range(900): str(i) + 'x'":                                                  300,
		"def f(): return [1] * 50\nfor i in range(200): f()":                                 400,
		"def g():\n  for i in range(500): yield [i]\nfor x in g(): pass":                     400,
		"for i in range(300):\n  try: 1 // 0\n  except ZeroDivisionError: pass":              400,
		"class A: pass\nfor i in range(300):\n  a = A()\n  a.b = a":                          400,
		"def f():\n  x = [0] * 2000\n  x = 0\n  return g()\ndef g(): return [0] * 2000\nf()": 5000,
		"x = [0] * 9\nfor i in range(400):\n  x.append(i)\n  x.pop()":                        300,
		"d = {}\nfor i in range(400):\n  d[i] = i\n  del d[i]":                               400,
		"x = ''\nfor i in range(300): x += 'abcdefgh'":                                       3000,
		"def f(n):\n  if n: return f(n - 1)\n  return 0\nfor i in range(40): f(50)":          3000,
		"def g():\n  yield 1\nfor i in range(200): next(g())":                                400,
		"i = iter(range(10 ** 30, 10 ** 30 + 300))\nfor x in i: pass":                        400,
	} {
		if n := least(t, src); n > empty+most || n < empty {
			t.Errorf("%q wants %d words, above %d", src, n, empty)
		}
	}
	kept := "s = 'x'\nfor i in range(13): s += s\ns = s[:8000]\nt = s\n"
	less := "s = 'x'\nfor i in range(13): s += s\ns = s[:8000]\nt = s\ns = t = 0\n"
	more := kept + "u = 'y' + s[1:]\nv = 'z' + s[1:]\nw = 'y' + s[1:]\n"
	if a, b := least(t, more), least(t, kept); a < b+1000 {
		t.Error("three strings that are kept", a, b)
	}
	if a, b := least(t, less), least(t, kept); a > b+200 {
		t.Error("strings that go", a, b)
	}
}

// P23.4.
func TestMemory(t *testing.T) {
	src := []byte("print(1)")
	g := api.Config{Fuel: 9, Words: 5, Force: []int{2}, Inputs: []string{"a"}}
	a, _ := Least(src, g)
	b, _ := Least(src, g)
	if a != b || string(src) != "print(1)" || g.Words != 5 || g.Force[0] != 2 {
		t.Error("changed")
	}
}
