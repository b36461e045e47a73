package parse

import (
	"math/rand"
	"reflect"
	"strconv"
	"strings"
	"testing"

	"scree/api"
	"scree/lex"
)

var names = map[int]string{
	api.NBlock: "block", api.NExpr: "expr", api.NAssign: "=", api.NAug: "aug", api.NIf: "if", api.NWhile: "while", api.NFor: "for", api.NDef: "def", api.NClass: "class", api.NReturn: "return", api.NPass: "pass",
	api.NBreak: "break", api.NContinue: "continue", api.NRaise: "raise", api.NTry: "try", api.NWith: "with", api.NGlobal: "global", api.NNonlocal: "nonlocal", api.NDel: "del", api.NAssert: "assert", api.NHandler: "except",
	api.NFinally: "finally", api.NParams: "params", api.NBases: "bases", api.NInt: "int", api.NFloat: "float", api.NStr: "str", api.NNone: "None", api.NTrue: "True", api.NFalse: "False", api.NName: "name", api.NBin: "bin",
	api.NUn: "un", api.NAnd: "and", api.NOr: "or", api.NNot: "not", api.NCompare: "cmp", api.NLink: "link", api.NCall: "call", api.NAttr: "attr", api.NIndex: "index", api.NSlice: "slice", api.NMissing: "missing", api.NCond: "cond",
	api.NLambda: "lambda", api.NList: "list", api.NTuple: "tuple", api.NSet: "set", api.NDict: "dict", api.NListFor: "listfor", api.NSetFor: "setfor", api.NDictFor: "dictfor", api.NEach: "each", api.NWhen: "when", api.NYield: "yield",
}

// tell writes a tree in short: a leaf's text alone, else (kind text op kids); with lines, if they are asked for.
func tell(n api.Node, lines bool) string {
	s := names[n.Kind]
	if lines {
		s += "@" + strconv.Itoa(n.Line)
	}
	switch {
	case n.Kind == api.NName && !lines, n.Kind == api.NInt && !lines:
		return n.Text
	case n.Text != "":
		s += " " + n.Text
	}
	if n.Op != 0 {
		s += " " + strconv.Itoa(n.Op)
	}
	for _, k := range n.Kids {
		s += " " + tell(k, lines)
	}
	return "(" + s + ")"
}

// P5.1, P5.2: what each rule makes.
func TestTrees(t *testing.T) {
	for src, want := range map[string]string{
		"a = b, 1": "(= a (tuple b 1))", "a, = b": "(= (tuple a) b)", "x = y = 1": "(= x y 1)", "-a ** -b": "(un 1 (bin 7 a (un 1 b)))", "a - b - c": "(bin 2 (bin 2 a b) c)", "not a == b": "(not (cmp a (link 1 b)))",
		"a < b <= c": "(cmp a (link 3 b) (link 4 c))", "{}": "(dict)", "{a}": "(set a)", "()": "(tuple)", "(a)": "a", "(a,)": "(tuple a)", "[x for x in y if z]": "(listfor x (each x y) (when z))", "f(a, )": "(call f a)",
		"a not in b is not c is d in e != f >= g > h": "(cmp a (link 8 b) (link 10 c) (link 9 d) (link 7 e) (link 2 f) (link 6 g) (link 5 h))",
		"a or b or c and d":                           "(or (or a b) (and c d))", "a if b else c if d else e": "(cond b a (cond d c e))", "lambda: a if b else c": "(lambda (params) (cond b a c))", "lambda a, b,: a": "(lambda (params a b) a)",
		"a.b[c](d).e": "(attr e (call (index (attr b a) c) d))", "a[b:c]": "(slice a b c)", "a[:]": "(slice a (missing) (missing))", "a[b:]": "(slice a b (missing))", "a[:b]": "(slice a (missing) b)", "a[b,]": "(index a (tuple b))", "a[(b,c):d]": "(slice a (tuple b c) d)",
		"+a * b // c % d / e": "(bin 4 (bin 6 (bin 5 (bin 3 (un 2 a) b) c) d) e)", "a ** b ** c": "(bin 7 a (bin 7 b c))", "2 ** not_a": "(bin 7 2 not_a)", "- -a": "(un 1 (un 1 a))",
		"{a: b, c: d,}": "(dict a b c d)", "{a: b for a, b in c for d in e if f}": "(dictfor a b (each (tuple a b) c) (each d e) (when f))", "{a for a in b}": "(setfor a (each a b))", "[a, b,]": "(list a b)", "[]": "(list)",
		"[a for b.c, [d] in e]": "(listfor a (each (tuple (attr c b) (list d)) e))", "(a, b)[c], [d.e] = f": "(= (tuple (index (tuple a b) c) (list (attr e d))) f)", "(a, b) = [c] = d": "(= (tuple a b) (list c) d)",
		"a += 1": "(aug 1 a 1)", "a.b **= c, d": "(aug 7 (attr b a) (tuple c d))", "a[0] //= 2": "(aug 5 (index a 0) 2)", "(a) -= 1": "(aug 2 a 1)", "del a.b": "(del (attr b a))", "del (a)": "(del a)",
		"yield": "(expr (yield))", "x = yield a, b": "(= x (yield (tuple a b)))", "yield a": "(expr (yield a))", "return": "(return)", "return a, b": "(return (tuple a b))", "raise": "(raise)", "raise a": "(raise a)", "pass": "(pass)", "break": "(break)", "continue": "(continue)",
		"global a, b": "(global a b)", "nonlocal a": "(nonlocal a)", "assert a": "(assert a)", "None, True, False, 1.5, 'x'": "(tuple (None) (True) (False) (float 1.5) (str x))",
		"if a: b\nelif c: d\nelse: e": "(if a (block b) (block (if c (block d) (block e))))", "if a: b\nelif c: d\nelif e: f": "(if a (block b) (block (if c (block d) (block (if e (block f))))))", "if a:\n b\n c": "(if a (block b c))",
		"while a: b": "(while a (block b))", "for a in b, c: d": "(for a (tuple b c) (block d))", "for a, in b: d": "(for (tuple a) b (block d))", "for a, b in c: d": "(for (tuple a b) c (block d))", "def f(): pass": "(def f (params) (block (pass)))", "def f(a, b,): pass": "(def f (params a b) (block (pass)))",
		"class A: pass": "(class A (bases) (block (pass)))", "class A(): pass": "(class A (bases) (block (pass)))", "class A(b, c.d,): pass": "(class A (bases b (attr d c)) (block (pass)))",
		"try: a\nexcept b as c: d\nexcept: e\nfinally: f": "(try (block a) (except c b (block d)) (except (block e)) (finally (block f)))", "try: a\nfinally: b": "(try (block a) (finally (block b)))", "try: a\nexcept b: c": "(try (block a) (except b (block c)))",
		"with a as b: c": "(with b a (block c))", "with a: c": "(with a (block c))", "f(a)(b, lambda: c)": "(call (call f a) b (lambda (params) c))", "a not in b": "(cmp a (link 8 b))", "not not a": "(not (not a))", "[a for a in b or c]": "(listfor a (each a (or b c)))",
	} {
		n, line, e := Source([]byte(src))
		got := tell(n, false)
		want = "(block " + want + ")"
		if stripExpr(got) != stripExpr(want) || line != 0 || e != api.OK {
			t.Errorf("%q: %s (%d, %d); want %s", src, got, line, e, want)
		}
	}
}

// stripExpr leaves out what tells that an expression is a statement.
func stripExpr(s string) string {
	for {
		i := strings.Index(s, "(expr ")
		if i < 0 {
			return s
		}
		depth, j := 0, i
		for ; ; j++ {
			if s[j] == '(' {
				depth++
			} else if s[j] == ')' {
				depth--
				if depth == 0 {
					break
				}
			}
		}
		s = s[:i] + s[i+6:j] + s[j+1:]
	}
}

func TestExprNode(t *testing.T) {
	n, _, _ := Source([]byte("a\nf(x)"))
	if got := tell(n, true); got != "(block@1 (expr@1 (name@1 a)) (expr@2 (call@2 (name@2 f) (name@2 x))))" {
		t.Error(got)
	}
}

// P5.1: the lines of nodes.
func TestLines(t *testing.T) {
	for src, want := range map[string]string{
		"(\na\n+\nb)": "(block@2 (expr@2 (bin@2 1 (name@2 a) (name@4 b))))", "(a\nif\nb\nelse\nc)": "(block@1 (expr@1 (cond@1 (name@3 b) (name@1 a) (name@5 c))))", "(\n-\na)": "(block@2 (expr@2 (un@2 1 (name@3 a))))",
		"(a\nnot\nin\nb)": "(block@1 (expr@1 (cmp@1 (name@1 a) (link@2 8 (name@4 b)))))", "(\na,\nb)": "(block@2 (expr@2 (tuple@2 (name@2 a) (name@3 b))))", "(\n)": "(block@1 (expr@1 (tuple@1)))", "[\na]": "(block@1 (expr@1 (list@1 (name@2 a))))",
		"(\na\n[\n:\nb])": "(block@2 (expr@2 (slice@2 (name@2 a) (missing@2) (name@5 b))))", "[a\nfor\nb in c\nif d]": "(block@1 (expr@1 (listfor@1 (name@1 a) (each@2 (name@3 b) (name@3 c)) (when@4 (name@4 d)))))",
		"if a:\n\n b\nelif c: d": "(block@1 (if@1 (name@1 a) (block@3 (expr@3 (name@3 b))) (block@4 (if@4 (name@4 c) (block@4 (expr@4 (name@4 d)))))))", "def f(\na\n): pass": "(block@1 (def@1 f (params@1 (name@2 a)) (block@3 (pass@3))))",
		"class A(\nb): pass": "(block@1 (class@1 A (bases@1 (name@2 b)) (block@2 (pass@2))))", "(lambda\na: b)": "(block@1 (expr@1 (lambda@1 (params@1 (name@2 a)) (name@2 b))))", "\n\n": "(block@3)", "(a\n)(\nb)": "(block@1 (expr@1 (call@1 (name@1 a) (name@3 b))))",
		"try: a\nexcept: b\nfinally: c": "(block@1 (try@1 (block@1 (expr@1 (name@1 a))) (except@2 (block@2 (expr@2 (name@2 b)))) (finally@3 (block@3 (expr@3 (name@3 c))))))", "(a\n) = (\nb)": "(block@1 (=@1 (name@1 a) (name@3 b)))",
	} {
		n, _, e := Source([]byte(src))
		if got := tell(n, true); got != want || e != api.OK {
			t.Errorf("%q: %s (%d); want %s", src, got, e, want)
		}
	}
}

// spread puts each token of a one-line text on a line of its own, and tells at which the parser gives up (0: none).
func spread(src string) int {
	ts, _, e := lex.Lex([]byte(src))
	if e != api.OK {
		return -1
	}
	for i := range ts {
		ts[i].Line = i + 1
	}
	n, line, e := Parse(ts)
	if e == api.ErrSyntax && n.Kind == 0 {
		return line
	}
	if e != api.OK {
		return -2
	}
	return 0
}

// P5.1: the first token that can't stand there.
func TestWrongTokens(t *testing.T) {
	for src, want := range map[string]int{
		"1 = a": 2, "f() += 1": 4, "a[1:2] = b": 7, "for f() in b: pass": 5, "for f(), a in b: pass": 5, "pass a": 2, "if a: if b: c": 4, "x = [a, b for c in d]": 7, "{a: b, c}": 7, "a = b += 1": 4, "a, b += 1": 4,
		"a = 1 = b": 4, "() = a": 3, "[] = a": 3, "(a, 1) = b": 6, "(a, ()) = b": 7, "a < b = c": 4, "(a) = b": 0, "a not b": 3, "a b": 2, "a if b": 4, "a if b for": 4, "lambda a b": 3, "lambda 1": 2, "not lambda: a": 2, "a + not b": 3, "f(a for a in b)": 4, "(a for a in b)": 3, "f(a=1)": 4, "f(*a)": 3,
		"a[]": 3, "a[b:c:d]": 6, "a[b, c:d]": 6, "a[b,:c]": 5, "a[:b, c]": 5, "{a, b: c}": 5, "{a: b, **c}": 6, "[a for b in c if d else e]": 9, "[a for b in lambda: c]": 6, "[a for 1 in b]": 5, "[a for b]": 5, "yield = 1": 2, "x = yield = 1": 4, "x = (yield)": 4, "x += yield": 3, "return yield": 2,
		"del f()": 5, "del (a, b)": 7, "del 1": 3, "del a, b": 3, "del a[1:2]": 8, "del -a": 2, "raise a, b": 3, "assert a, b": 3, "global a,": 4, "global": 2, "global 1": 2, "def f(a, (b)): pass": 6, "def f(1): pass": 4, "def 1(): pass": 2, "class A(b c): pass": 5, "class A b": 3, "with a as 1: b": 4, "with a, b: c": 3,
		"try: a": 5, "try: a\nexcept: b\nexcept: c": 9, "try: a\nelse: b": 5, "try: a\nexcept b, c: d": 7, "except: a": 1, "else: a": 1, "elif a: b": 1, "if a: b\nelse: c\nelse: d": 10, "if a:\n\nb": 5, "a\n  b": 3, "if a:\n  b\n c": -1, "": 0, "while: a": 2, "for a b": 3, "for a, in in b: c": 5,
		"(a": 3, "a.1": 3, "a.": 3, "a. = 1": 3, "a = ": 3, "= a": 1, "a = = b": 3, "'a' 'b'": 2, "a is is b": 3, "a in not b": 3, "** a": 1, "a ** ": 3, "(a,,b)": 4, "[,]": 2, "{,}": 2, "(,)": 2, "a,,b": 3, ", a": 1, "import a": 2, "f(,)": 3, "a = lambda: b = c": 6, "for a in b: for c in d: e": 6, "break 1": 2, "(a, b) += c": 6, "f(a)": 0,
		"a.b, c[d], [e, (f,)] = g": 0, "if a: b = c": 0, "for (a) in b: c": 0, "x.y(z).w = 1": 0, "x.y(z) = 1": 7, "(a if b else c) = d": 8, "a if b else c = d": 6, "-a = b": 3, "a ** b = c": 4, "None = a": 2, "'a'.b = c": 0, "'a' = b": 2, "[a for a in b] = c": 8, "lambda: a += b": 4, "a[b] += 1": 0, "{a} = b": 4, "{} = b": 3,
	} {
		if got := spread(src); got != want {
			t.Errorf("%q: wrong at %d, want %d", src, got, want)
		}
	}
}

// P5.1, P5.4: what stands behind the wrong token counts nothing; what stands ahead of it can't be wrong.
func TestPrefixes(t *testing.T) {
	r := rand.New(rand.NewSource(7))
	words := strings.Fields("a b 1 'x' ( ) [ ] { } , : . = += == + - * ** not in is if else for lambda yield return try except finally def class with as del pass while None or and elif global raise")
	for range 40000 {
		ts := []api.Token{}
		for range 3 + r.Intn(9) {
			ts = append(ts, anyToken(r, words))
		}
		for i := range ts {
			ts[i].Line = i + 1
		}
		_, at, e := Parse(append(ts[:len(ts):len(ts)], api.Token{Kind: api.TEnd, Line: 50}))
		if e != api.ErrSyntax || at > len(ts) {
			continue
		}
		other := append([]api.Token{}, ts[:at]...)
		for range r.Intn(4) {
			x := anyToken(r, words)
			x.Line = 99
			other = append(other, x)
		}
		_, at2, e2 := Parse(other)
		if e2 != api.ErrSyntax || at2 != at {
			t.Fatalf("%v: wrong at %d; with another end %d (%d)", ts, at, at2, e2)
		}
		if at > 1 {
			short := append(ts[:at-1:at-1], api.Token{Kind: api.TEnd, Line: 50})
			if _, at3, e3 := Parse(short); e3 == api.ErrSyntax && at3 != 50 {
				t.Fatalf("%v: wrong at %d; cut ahead of it %d", ts, at, at3)
			}
		}
	}
}

func anyToken(r *rand.Rand, words []string) api.Token {
	switch r.Intn(9) {
	case 0:
		return api.Token{Kind: api.TLine}
	case 1:
		return api.Token{Kind: r.Intn(12) - 1, Text: "a"}
	}
	ts, _, _ := lex.Lex([]byte(words[r.Intn(len(words))]))
	return ts[0]
}

func TestTokensAlone(t *testing.T) {
	if n, line, e := Parse(nil); tell(n, true) != "(block@0)" || line != 0 || e != api.OK {
		t.Errorf("no tokens: %v %d %d", n, line, e)
	}
	name := api.Token{Kind: api.TName, Line: 4, Text: "a"}
	if _, line, e := Parse([]api.Token{name}); line != 4 || e != api.ErrSyntax {
		t.Errorf("a name alone: %d %d", line, e)
	}
	end := api.Token{Kind: api.TEnd, Line: 7}
	if n, _, e := Parse([]api.Token{end, name, name}); tell(n, true) != "(block@7)" || e != api.OK {
		t.Errorf("behind the end: %v %d", n, e)
	}
	for _, x := range []api.Token{{Kind: api.TWord, Text: "("}, {Kind: api.TSymbol, Text: "pass"}, {Kind: api.TWord, Text: "foo"}, {Kind: api.TWord}, {Kind: api.TSymbol}, {Kind: -1}, {Kind: 99}, {Kind: api.TIn}, {Kind: api.TOut}, {Kind: api.TLine}} {
		x.Line = 5
		if _, line, e := Parse([]api.Token{x, {Kind: api.TLine, Line: 6}}); line != 5 || e != api.ErrSyntax {
			t.Errorf("%v: %d %d", x, line, e)
		}
	}
}

// P5.2.
func TestSource(t *testing.T) {
	for src, want := range map[string]struct {
		line int
		err  api.Errno
	}{"a\n 1x": {2, api.ErrLex}, strings.Repeat(" ", 20001): {0, api.ErrSize}, "a\n\n= b": {3, api.ErrSyntax}, "if a:\n  b\n c": {3, api.ErrIndent}, strings.Repeat("-", 58) + "a": {0, api.ErrDeep}, strings.Repeat("-", 57) + "a": {0, 0}} {
		if n, line, e := Source([]byte(src)); line != want.line || e != want.err || (e != 0) != (n.Kind == 0) {
			t.Errorf("%.20q: %d %d", src, line, e)
		}
	}
}

// ErrDeep, behind ErrSyntax; parentheses make no level.
func TestDepth(t *testing.T) {
	row := func(n int, one string) string { return strings.Repeat(one, n) }
	for src, want := range map[string]api.Errno{
		row(9000, "(") + "a" + row(9000, ")"): 0, "a" + row(57, "+a"): 0, "a" + row(58, "+a"): api.ErrDeep, "a" + row(5000, "+a"): api.ErrDeep, "a" + row(5000, "+a") + "+": api.ErrSyntax, "a" + row(70, ".a") + " = 1": api.ErrDeep, "a" + row(70, ".a") + "() = 1": api.ErrSyntax, "a" + row(70, ".a") + "[1:2] = 1": api.ErrSyntax,
		row(58, "[") + row(58, "]"): 0, row(59, "[") + row(59, "]"): api.ErrDeep, "if a: b\n" + row(27, "elif a: b\n"): 0, "if a: b\n" + row(28, "elif a: b\n"): api.ErrDeep, "if a: b\n" + row(100, "elif a: b\n"): api.ErrDeep, row(70, "not ") + "a": api.ErrDeep, "a" + row(70, " or a"): api.ErrDeep, "a" + row(70, " and a") + " and": api.ErrSyntax,
		"a" + row(5000, ",a"): 0, "a" + row(5000, "<a"): 0,
	} {
		n, _, e := Source([]byte(src))
		if e != want || e == 0 && Height(n) > 60 {
			t.Errorf("%.30q (%d): %d, want %d", src, len(src), e, want)
		}
	}
}

// P5.3.
func TestHeight(t *testing.T) {
	leaf := api.Node{}
	if Height(leaf) != 1 || Height(api.Node{Kids: []api.Node{leaf, {Kids: []api.Node{leaf}}, leaf}}) != 3 {
		t.Error("heights")
	}
}

// P5.4, P5.5: a file's statements are those of its pieces; tokens stay as they are; the tree shares nothing.
func TestPieces(t *testing.T) {
	first, second := "a = 1\nif b:\n  c\n", "def f(x):\n  return x\n"
	one, _, _ := Source([]byte(first))
	two, _, _ := Source([]byte(strings.Repeat("\n", strings.Count(first, "\n")) + second))
	both, _, _ := Source([]byte(first + second))
	one.Kids = append(one.Kids, two.Kids...)
	if !reflect.DeepEqual(one, both) {
		t.Error("pieces")
	}
	ts, _, _ := lex.Lex([]byte(first))
	keep := append([]api.Token{}, ts...)
	n, _, _ := Parse(ts[:len(ts)-1])
	if !reflect.DeepEqual(ts, keep) {
		t.Error("tokens were changed")
	}
	_ = append(n.Kids, api.Node{})
	m, _, _ := Parse(ts)
	m.Kids[0].Kids[0].Text = "z"
	if n.Kids[0].Kids[0].Text != "a" {
		t.Error("trees share memory")
	}
}
