package show

import (
	"math/rand"
	"reflect"
	"strings"
	"testing"

	"scree/api"
	"scree/parse"
)

func read(t *testing.T, src string) api.Node {
	t.Helper()
	n, line, e := parse.Source([]byte(src))
	if e != api.OK {
		t.Fatalf("%q: %d at %d", src, e, line)
	}
	return n
}

// bare is the tree without lines.
func bare(n api.Node) api.Node {
	n.Line = 0
	kids := []api.Node{}
	for _, k := range n.Kids {
		kids = append(kids, bare(k))
	}
	n.Kids = kids
	return n
}

// P6.1: the one way.
func TestTexts(t *testing.T) {
	for src, want := range map[string]string{
		"a=b,1": "a = (b, 1)\n", "x = -(a+b)*c": "x = -(a + b) * c\n", "(-a)**b": "(-a) ** b\n", "-a**b": "-a ** b\n", "not(a==b)": "not a == b\n", "(a<b)<c": "(a < b) < c\n", "a<b<c": "a < b < c\n", "f(a,)[1:].b": "f(a)[1:].b\n", "(1).b": "(1).b\n", "(1.5).b": "(1.5).b\n", "1[b](c)": "1[b](c)\n",
		"if a: b\nelif c: d\nelse: e": "if a:\n    b\nelif c:\n    d\nelse:\n    e\n", "if a: b\nelse:\n if c: d": "if a:\n    b\nelif c:\n    d\n", "if a: b\nelse:\n if c: d\n e": "if a:\n    b\nelse:\n    if c:\n        d\n    e\n",
		"def f(): pass": "def f():\n    pass\n", "def f(a,b,): return": "def f(a, b):\n    return\n", "class A(): pass": "class A:\n    pass\n", "class A(b,c.d,): x=1": "class A(b, c.d):\n    x = 1\n", "": "", "\n# x\n": "",
		"- -a": "--a\n", "+-a": "+-a\n", "a- -b": "a - -b\n", "a**-b": "a ** -b\n", "a**b**c": "a ** b ** c\n", "(a**b)**c": "(a ** b) ** c\n", "a-(b-c)": "a - (b - c)\n", "a-b-c": "a - b - c\n", "a*(b/c)//d%e": "a * (b / c) // d % e\n", "(a,)": "(a,)\n", "a,(b,),()": "(a, (b,), ())\n", "[]": "[]\n", "[a,]": "[a]\n",
		"{}": "{}\n", "{a:b,c:d,}": "{a: b, c: d}\n", "{a,b,}": "{a, b}\n", "[x for x in y if z]": "[x for x in y if z]\n", "{a:b for a,b in c}": "{a: b for (a, b) in c}\n", "{a for a in(b if c else d)}": "{a for a in (b if c else d)}\n", "[a for a in b if(lambda:c)]": "[a for a in b if (lambda: c)]\n",
		"lambda:a": "lambda: a\n", "lambda a,b,:(a,b)": "lambda a, b: (a, b)\n", "(lambda:a)()": "(lambda: a)()\n", "a if b else c if d else e": "a if b else c if d else e\n", "(a if b else c)if(d if e else f)else g": "(a if b else c) if (d if e else f) else g\n", "a or(b or c)and not d": "a or (b or c) and not d\n", "(a or b)or c": "a or b or c\n", "a and(b and c)": "a and (b and c)\n", "(not a)==b": "(not a) == b\n",
		"a is not b not in c": "a is not b not in c\n", "a[:]": "a[:]\n", "a[b:c]": "a[b:c]\n", "a[b,c]": "a[(b, c)]\n", "a[(b):]": "a[b:]\n", "for a,b in c,d: e": "for (a, b) in (c, d):\n    e\n", "while a: break": "while a:\n    break\n", "del a[b]": "del a[b]\n", "(a+b).c": "(a + b).c\n", "(a,b)=[c,d]=yield e": "(a, b) = [c, d] = yield e\n",
		"a.b//=c": "a.b //= c\n", "a**=yield_": "a **= yield_\n", "yield": "yield\n", "yield a,b": "yield (a, b)\n", "return a": "return a\n", "raise": "raise\n", "raise a": "raise a\n", "assert a": "assert a\n", "global a,b": "global a, b\n", "nonlocal a": "nonlocal a\n", "pass": "pass\n", "while a: continue": "while a:\n    continue\n",
		"try: a\nexcept b as c: d\nexcept e: f\nexcept: g\nfinally: h": "try:\n    a\nexcept b as c:\n    d\nexcept e:\n    f\nexcept:\n    g\nfinally:\n    h\n", "with a as b:\n  with c: d": "with a as b:\n    with c:\n        d\n",
		"'a\\n\\t\\\\\\'\\\"\\x00\\x1f\\x7f\\xc8'": "\"a\\n\\t\\\\'\\\"\\x00\\x1f\x7f\xc8\"\n", "None,True,False,0,1.50e+3": "(None, True, False, 0, 1.50e+3)\n", "f()(a,(b,))": "f()(a, (b,))\n",
	} {
		got, e := Show(read(t, src))
		if got != want || e != api.OK {
			t.Errorf("%q: %q (%d), want %q", src, got, e, want)
		}
	}
}

// P6.1: what isn't in form.
func TestNotInForm(t *testing.T) {
	name := api.Node{Kind: api.NName, Text: "a"}
	stmt := func(n api.Node) api.Node {
		return api.Node{Kind: api.NBlock, Kids: []api.Node{{Kind: api.NExpr, Kids: []api.Node{n}}}}
	}
	if s, e := Show(stmt(name)); s != "a\n" || e != api.OK {
		t.Errorf("a name: %q %d", s, e)
	}
	deep := name
	for range 58 {
		deep = api.Node{Kind: api.NNot, Kids: []api.Node{deep}}
	}
	for i, n := range []api.Node{
		{}, name, {Kind: api.NBlock, Kids: []api.Node{name}}, stmt(api.Node{Kind: api.NName, Text: "if"}), stmt(api.Node{Kind: api.NName, Text: ""}), stmt(api.Node{Kind: api.NName, Text: "a.b"}), stmt(api.Node{Kind: api.NName, Text: "a\n"}), stmt(api.Node{Kind: api.NName, Text: "a#"}),
		stmt(api.Node{Kind: api.NName, Text: "a", Op: 1}), stmt(api.Node{Kind: api.NInt, Text: "01"}), stmt(api.Node{Kind: api.NInt, Text: "1.5"}), stmt(api.Node{Kind: api.NInt, Text: "-1"}), stmt(api.Node{Kind: api.NBin, Op: 8, Kids: []api.Node{name, name}}), stmt(api.Node{Kind: api.NBin, Op: 1, Kids: []api.Node{name}}), stmt(api.Node{Kind: api.NBin, Op: 1, Kids: []api.Node{name, name, name}}),
		stmt(api.Node{Kind: api.NTuple, Text: "x"}), stmt(api.Node{Kind: api.NSet}), stmt(api.Node{Kind: api.NDict, Kids: []api.Node{name}}), stmt(api.Node{Kind: api.NListFor, Kids: []api.Node{name}}), stmt(api.Node{Kind: api.NMissing}), stmt(api.Node{Kind: api.NSlice, Kids: []api.Node{name, name}}), stmt(api.Node{Kind: api.NCall}), stmt(api.Node{Kind: api.NAttr, Text: "b"}),
		stmt(api.Node{Kind: 99}), stmt(api.Node{Kind: -1}), {Kind: api.NBlock, Kids: []api.Node{{Kind: api.NIf}}}, {Kind: api.NBlock, Kids: []api.Node{{Kind: api.NTry}}}, {Kind: api.NBlock, Kids: []api.Node{{Kind: api.NWhile, Kids: []api.Node{name, {Kind: api.NBlock}}}}}, {Kind: api.NBlock, Kids: []api.Node{{Kind: api.NDef}, {Kind: api.NFor}, {Kind: api.NClass}, {Kind: api.NWith}, {Kind: api.NAssign}}},
		{Kind: api.NBlock, Kids: []api.Node{{Kind: api.NAssign, Kids: []api.Node{{Kind: api.NCall, Kids: []api.Node{name}}, name}}}}, {Kind: api.NBlock, Kids: []api.Node{{Kind: api.NReturn, Kids: []api.Node{{Kind: api.NYield}}}}}, {Kind: api.NBlock, Kids: []api.Node{{Kind: api.NPass, Text: "x"}}}, {Kind: api.NBlock, Kids: []api.Node{{Kind: api.NCompare}, {Kind: api.NLambda}, {Kind: api.NEach}}},
		stmt(deep), stmt(api.Node{Kind: api.NStr, Text: strings.Repeat("x", 20000)}), {Kind: api.NBlock, Text: "x"}, {Kind: api.NBlock, Op: 1},
	} {
		if s, e := Show(n); s != "" || e != api.ErrForm {
			t.Errorf("tree %d: %q %d", i, s, e)
		}
	}
}

// maker makes trees in form, at random.
type maker struct{ *rand.Rand }

func (m maker) kids(n int, f func() api.Node) []api.Node {
	out := []api.Node{}
	for range n {
		out = append(out, f())
	}
	return out
}

func (m maker) of(depth int) func() api.Node { return func() api.Node { return m.expr(depth) } }

func (m maker) name() api.Node {
	return api.Node{Kind: api.NName, Text: []string{"a", "b", "x1", "_"}[m.Intn(4)]}
}

func (m maker) expr(depth int) api.Node {
	if depth == 0 {
		switch m.Intn(5) {
		case 0:
			return api.Node{Kind: api.NInt, Text: "7"}
		case 1:
			return api.Node{Kind: api.NFloat, Text: "1.5e-3"}
		case 2:
			return api.Node{Kind: api.NStr, Text: []string{"", "it's \"\\\n", "\x01\xff"}[m.Intn(3)]}
		case 3:
			return api.Node{Kind: api.NNone + m.Intn(3)}
		}
		return m.name()
	}
	d := m.of(depth - 1)
	switch k := m.Intn(20); k {
	case 0, 1, 2:
		return api.Node{Kind: api.NBin, Op: 1 + m.Intn(7), Kids: m.kids(2, d)}
	case 3:
		return api.Node{Kind: api.NUn, Op: 1 + m.Intn(2), Kids: m.kids(1, d)}
	case 4, 5:
		return api.Node{Kind: api.NAnd + m.Intn(2), Kids: m.kids(2, d)}
	case 6:
		return api.Node{Kind: api.NNot, Kids: m.kids(1, d)}
	case 7:
		kids := m.kids(1, d)
		for range 1 + m.Intn(2) {
			kids = append(kids, api.Node{Kind: api.NLink, Op: 1 + m.Intn(10), Kids: m.kids(1, d)})
		}
		return api.Node{Kind: api.NCompare, Kids: kids}
	case 8:
		return api.Node{Kind: api.NCall, Kids: m.kids(1+m.Intn(3), d)}
	case 9:
		return api.Node{Kind: api.NAttr, Text: "at", Kids: m.kids(1, d)}
	case 10:
		return api.Node{Kind: api.NIndex, Kids: m.kids(2, d)}
	case 11:
		kids := m.kids(3, d)
		for i := 1; i < 3; i++ {
			if m.Intn(2) == 0 {
				kids[i] = api.Node{Kind: api.NMissing}
			}
		}
		return api.Node{Kind: api.NSlice, Kids: kids}
	case 12:
		return api.Node{Kind: api.NCond, Kids: m.kids(3, d)}
	case 13:
		return api.Node{Kind: api.NLambda, Kids: []api.Node{{Kind: api.NParams, Kids: m.kids(m.Intn(3), m.name)}, d()}}
	case 14, 15:
		return api.Node{Kind: api.NList + m.Intn(2), Kids: m.kids(m.Intn(4), d)}
	case 16:
		return api.Node{Kind: api.NSet, Kids: m.kids(1+m.Intn(3), d)}
	case 17:
		return api.Node{Kind: api.NDict, Kids: m.kids(2*m.Intn(3), d)}
	}
	kind := api.NListFor + m.Intn(3)
	kids := m.kids(1, d)
	if kind == api.NDictFor {
		kids = append(kids, d())
	}
	for i := range 1 + m.Intn(3) {
		if i > 0 && m.Intn(2) == 0 {
			kids = append(kids, api.Node{Kind: api.NWhen, Kids: m.kids(1, d)})
			continue
		}
		kids = append(kids, api.Node{Kind: api.NEach, Kids: []api.Node{m.place(1), d()}})
	}
	return api.Node{Kind: kind, Kids: kids}
}

func (m maker) place(depth int) api.Node {
	switch m.Intn(5) {
	case 0:
		return api.Node{Kind: api.NAttr, Text: "at", Kids: m.kids(1, m.of(1))}
	case 1:
		return api.Node{Kind: api.NIndex, Kids: m.kids(2, m.of(1))}
	case 2:
		if depth > 0 {
			return api.Node{Kind: api.NList + m.Intn(2), Kids: m.kids(1+m.Intn(2), func() api.Node { return m.place(depth - 1) })}
		}
	}
	return m.name()
}

// P6.2: what is shown and read is the tree; what is read and shown the text. P6.3: the tree stays.
func TestRound(t *testing.T) {
	m := maker{rand.New(rand.NewSource(3))}
	for range 6000 {
		tree := api.Node{Kind: api.NBlock}
		for range 1 + m.Intn(3) {
			s := api.Node{Kind: api.NExpr, Kids: m.kids(1, m.of(m.Intn(4)))}
			if m.Intn(2) == 0 {
				s = api.Node{Kind: api.NAssign, Kids: []api.Node{m.place(2), m.expr(m.Intn(4))}}
			}
			tree.Kids = append(tree.Kids, s)
		}
		keep := bare(tree)
		text, e := Show(tree)
		if e != api.OK {
			t.Fatalf("%v: %d", tree, e)
		}
		back := read(t, text)
		if !reflect.DeepEqual(bare(back), keep) || !reflect.DeepEqual(bare(tree), keep) {
			t.Fatalf("%s isn't the tree", text)
		}
		if again, e := Show(back); again != text || e != api.OK {
			t.Fatalf("%q, then %q", text, again)
		}
	}
}
