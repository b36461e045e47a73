package machine

import (
	"testing"

	"scree/api"
	"scree/arena"
	"scree/frame"
	"scree/word"
)

// charged is chapter 23's charge at this instruction, or less: each object counts once.
func charged(v *vm) int {
	seen := map[int]bool{}
	total := 0
	var walk func(w uint64)
	walk = func(w uint64) {
		a, e := word.At(w)
		if e != api.OK || seen[a] {
			return
		}
		seen[a] = true
		kind, _ := arena.Kind(v.mem, a)
		tagged, raw, _ := arena.Size(v.mem, a)
		total += chargeOf(v, w, kind, tagged, raw)
		for i := range tagged {
			walk(v.item(w, i))
		}
	}
	for _, w := range []uint64{v.home, v.globals, v.pool, v.frame} {
		walk(w)
	}
	return total
}

// chargeOf is what an object counts. Blocks count with what holds them; the machine's own don't count.
func chargeOf(v *vm, w uint64, kind, tagged, raw int) int {
	block := func(i int) int {
		a, e := word.At(v.item(w, i))
		if e != api.OK {
			return 0
		}
		t, r, _ := arena.Size(v.mem, a)
		return 2 + t + r
	}
	switch kind {
	case api.KBlock:
		return 0
	case api.KList:
		return 4 + block(1)
	case api.KDict, api.KSet:
		return 6 + block(2) + block(3)
	case api.KFrame:
		return 8 + v.code.Funcs[v.numberOf(w)].Bound
	}
	return 2 + tagged + raw
}

// P23.3: what a run wants is at most 36 times its charge, and 1000 words more.
func TestCharge(t *testing.T) {
	for _, src := range []string{
		"", "print(1)", "def f():\n  x = [1, 2, 3, 'a', lambda: 'b', {1: 2}]\n  return 5000 + 5001 + 5002",
		"x = set('a' * 20000)", "x = list('ab' * 9000)", "x = [0] * 20000\ny = list(x)\nz = y + []", "l = [i for i in range(900)]\nl.append([])\ntry: set(l)\nexcept TypeError: pass", "try: {1, 2, 3, 4, 5, 6, 7, 8, 9, [], 10}\nexcept TypeError: pass", "d = {}\nfor i in range(300): d[i] = i\ne = dict(d)",
		"x = 'x' * 19999\ntry: x += x\nexcept OverflowError: pass\ny = x[1:]", "def f(n): return f(n - 1) if n else 0\nf(50)", "def g(n):\n  if n:\n    yield n\n    for x in g(n - 1): yield x\nfor x in g(20): pass", "class A:\n  def __init__(self): self.x = 1\nl = [A() for i in range(50)]", "a, b, c = 'xyz'\ntry: a, b = 'abcdef' * 999\nexcept ValueError: pass", "i = iter(range(10 ** 30, 10 ** 30 + 900))\nl = list(i)", "try: list(range(30000))\nexcept OverflowError: pass", "x = 10 ** 500\ny = [x] * 100\nz = x * 7",
	} {
		c := codes(t, src)
		g := api.Config{Fuel: 5000, Words: 1 << 20}
		v := start(c[0], g)
		most := 0
		for v.end == running {
			most = max(most, charged(v))
			v.step()
		}
		n := least(c[1], g)
		if n > 36*most+1000 {
			t.Errorf("%q wants %d words, with a charge of %d", src, n, most)
		}
		if _, e := frame.Regs(v.mem, v.frame); e != api.OK {
			t.Error("no frame")
		}
	}
}
