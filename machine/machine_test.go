package machine

import (
	"reflect"
	"strconv"
	"strings"
	"testing"

	"scree/alloc"
	"scree/api"
	"scree/lower"
	"scree/parse"
)

// codes are the scheme's code of a source, and that with its registers in places.
func codes(t *testing.T, src string) []api.Code {
	t.Helper()
	n, line, e := parse.Source([]byte(src))
	if e != api.OK {
		t.Fatalf("%q: parse %d at %d", src, e, line)
	}
	c, line, e := lower.Lower(n)
	if e != api.OK {
		t.Fatalf("%q: lower %d at %d", src, e, line)
	}
	d, e := alloc.All(c)
	if e != api.OK {
		t.Fatalf("%q: alloc %d", src, e)
	}
	return []api.Code{c, d}
}

// tell writes a report in short: its lines with / between, and how it ended.
func tell(r api.Report) string {
	out := append([]string{}, r.Out...)
	switch r.End {
	case api.EndRaise:
		out = append(out, "raise "+r.Class+" "+strconv.Quote(r.Text)+" at "+strconv.Itoa(r.Line))
	case api.EndFuel:
		out = append(out, "fuel at "+strconv.Itoa(r.Line))
	case api.EndHeap:
		out = append(out, "heap at "+strconv.Itoa(r.Line))
	case api.EndArg:
		out = append(out, "arg")
	}
	return strings.Join(out, "/")
}

// least is the least memory with which the code doesn't end for want of it.
func least(c api.Code, g api.Config) int {
	lo, hi := 2, 1<<17
	for lo < hi {
		g.Words = (lo + hi) / 2
		if Run(c, g).End == api.EndHeap {
			lo = g.Words + 1
		} else {
			hi = g.Words
		}
	}
	return lo
}

// everyWay runs a source with much memory, with collections ahead of each allocation, with forced ones, with as little memory as is enough, and with less; P21.2, P21.4, P11.5, P9.2.
func everyWay(t *testing.T, src string, g api.Config) api.Report {
	t.Helper()
	both := codes(t, src)
	g.Words = 1 << 17
	want := Run(both[0], g)
	for k, c := range both {
		if got := Run(c, g); !reflect.DeepEqual(got, want) {
			t.Errorf("%q: code %d: %s, want %s", src, k, tell(got), tell(want))
		}
		all, force, tight := g, g, g
		all.All, all.Words = true, 30000
		force.Force = []int{3, 1, 4, 1, 5, 9, 26, 53, 58, 97, 93, 23, 84, -6, 0}
		tight.Words = least(c, g)
		short := tight
		short.Words -= 1 + len(src)%9
		for n, h := range []api.Config{all, force, tight} {
			if got := Run(c, h); !reflect.DeepEqual(got, want) && got.End != api.EndHeap || n > 0 && got.End == api.EndHeap {
				t.Errorf("%q: code %d, memory %d: %s, want %s", src, k, n, tell(got), tell(want))
			}
		}
		got := Run(c, short)
		if got.End != api.EndHeap || got.Fuel > want.Fuel || len(got.Out) > len(want.Out) || !reflect.DeepEqual(got.Out, want.Out[:len(got.Out):len(got.Out)]) && len(got.Out) > 0 || got.Class != "" || got.Text != "" {
			t.Errorf("%q: code %d, too little memory: %s", src, k, tell(got))
		}
	}
	return want
}

func run(t *testing.T, src, want string) {
	t.Helper()
	r := everyWay(t, src, api.Config{Fuel: 5000, Inputs: []string{"one", "two words"}})
	if got := tell(r); got != want {
		t.Errorf("%q: %s, want %s", src, got, want)
	}
}

// What expressions are worth, told as a source would write it, or the exception that they raise.
func values(t *testing.T, prelude string, table map[string]string) {
	t.Helper()
	for expr, want := range table {
		r := Run(codes(t, prelude+"\nx = "+expr+"\nprint(repr(x))")[1], api.Config{Fuel: 2000, Words: 1 << 19})
		got := r.Class
		if r.End == api.EndOK {
			got = strings.Join(r.Out, "/")
		}
		if got != want {
			t.Errorf("%s: %s (%d), want %s", expr, got, r.End, want)
		}
	}
}

const long = `n = "x" * 20000
big = 10 ** 539
l = [1, 2, 3]
d = {"a": 1, 2: "b"}
s = {1, 2}
def f(a, b): return (a, b)
def g(n):
  for i in range(n): yield i
class A:
  v = 5
  def m(self, a): return a + self.v
  def __init__(self, w): self.w = w
class B: pass
a = A(7)
b = B()
nan = float("nan")
inf = float("inf")
deep = []
for i in range(39): deep = [deep]
deeper = [deep]
wide = list(range(19999))
wider = (wide, 1)
tup = tuple(range(19999))
`

func TestOperators(t *testing.T) {
	values(t, long, map[string]string{
		"1 + True": "2", "2 ** 10 - 1": "1023", "7 / 2": "3.5", "-7 // 2": "-4", "-7 % 3": "2", "1 / 0": "ZeroDivisionError", "1.0 // 0": "ZeroDivisionError", "5 % 0": "ZeroDivisionError", "big * 10": "OverflowError", "big * 1.0": "OverflowError", "2 ** -1": "ValueError", "2 ** 0.5": "TypeError", "1e308 * 10": "inf", "inf - inf": "nan", "nan == nan": "False", "-0.0": "-0.0", "0.0 * -1": "-0.0",
		"'a' + 'b'": "'ab'", "'ab' * 2": "'abab'", "3 * 'a'": "'aaa'", "'a' * -1": "''", "n + 'x'": "OverflowError", "'a' + 1": "TypeError", "[1] + [2]": "[1, 2]", "(1,) + (2,)": "(1, 2)", "[1] + (2,)": "TypeError", "[1, 2] * 2": "[1, 2, 1, 2]", "2 * (1,)": "(1, 1)", "True * [1]": "[1]", "[1] * -5": "[]", "[] * big": "[]", "[1] * big": "OverflowError", "[1] * 20001": "OverflowError", "len([1] * 20000)": "20000", "[1] * 1.0": "TypeError", "[1] - [1]": "TypeError", "wide + [1, 2]": "OverflowError", "len(wide + [1])": "20000",
		"None + None": "TypeError", "-None": "TypeError", "-True": "-1", "+True": "1", "-[]": "TypeError", "+'a'": "TypeError", "not []": "True", "not nan": "False", "not range(0)": "True", "not a": "False", "not ''": "True", "{} + {}": "TypeError", "a + 1": "TypeError", "-big - 9 * big": "OverflowError", "999999999999999999 + 1": "1000000000000000000", "-999999999999999999 - 1": "-1000000000000000000", "1000000000000000000 - 1": "999999999999999999",
		"1 < 2 < 3": "True", "1 < 2 > 3": "False", "1 < nan": "False", "1 >= nan": "False", "not 1 <= nan": "True", "'a' < 'b'": "True", "'a' < 1": "TypeError", "[1, 2] < [1, 3]": "True", "(1,) < [1]": "TypeError", "[1] <= [1]": "True", "[2] > [1, 5]": "True", "[] >= []": "True", "None < None": "TypeError", "a < a": "TypeError", "True > 0": "True", "9007199254740993 > 9007199254740992.0": "True", "[nan] < [1]": "False", "[a] < [a]": "False", "{} < {}": "TypeError",
		"[1, 2.0] == [1.0, 2]": "True", "[1] == (1,)": "False", "1 == True": "True", "None == 0": "False", "a == a": "True", "a == b": "False", "a != b": "True", "{1: 2} == {1: 2}": "False", "d == d": "True", "[nan] == [nan]": "False", "deep == deep": "True", "[deep] == [deep]": "True", "deeper == [deep]": "True", "wide == list(range(19999))": "True", "[wide] == [list(range(19999))]": "RuntimeError", "f == f": "True", "len == len": "True", "a.m == a.m": "False", "range(3) == range(3)": "False",
		"1 is 1": "True", "1 is True": "False", "nan is nan": "True", "0.0 is -0.0": "False", "'ab' is 'a' + 'b'": "True", "[] is []": "False", "l is l": "True", "() is ()": "False", "None is None": "True", "1 is not 1.0": "True", "10 ** 30 is 10 ** 30": "True", "1.5 is 1.5": "True", "a is not a": "False",
		"1 in l": "True", "1.0 in l": "True", "True not in l": "False", "nan in [nan]": "False", "'a' in 'banana'": "True", "'' in ''": "True", "1 in 'a'": "TypeError", "'a' in d": "True", "2.0 in d": "True", "[] in d": "TypeError", "[] in []": "False", "5 in s": "False", "[] in s": "TypeError", "3 in range(0, 10, 3)": "True", "4 in range(0, 10, 3)": "False", "3.0 in range(5)": "True", "3.5 in range(5)": "False", "nan in range(5)": "False", "inf in range(5)": "False", "'a' in range(5)": "False", "True in range(5)": "True", "5 in range(5)": "False", "5 in range(5, 0, -2)": "True", "-1 in range(5, -2, -2)": "True", "big in range(5)": "False", "-big in range(10 ** 269)": "False", "1 in 1": "TypeError", "1 in None": "TypeError", "1 in a": "TypeError", "1 in g(3)": "TypeError", "1 in iter(l)": "TypeError", "deep in [deep]": "True", "deeper in [list(deeper)]": "True", "deeper in [[[]], list(deep), deeper]": "True",
	})
}

func TestContainers(t *testing.T) {
	values(t, long, map[string]string{
		"l[0]": "1", "l[-1]": "3", "l[3]": "IndexError", "l[-4]": "IndexError", "l[True]": "2", "l[1.0]": "TypeError", "l['a']": "TypeError", "l[big]": "IndexError", "l[-big]": "IndexError", "(1, 2)[1]": "2", "()[0]": "IndexError", "'abc'[-1]": "'c'", "'abc'[3]": "IndexError", "d['a']": "1", "d[2.0]": "'b'", "d['z']": "KeyError", "d[[]]": "TypeError", "s[1]": "TypeError", "None[0]": "TypeError", "a[0]": "TypeError", "range(5)[1]": "1", "range(5)[-1]": "4", "range(5)[5]": "IndexError", "range(5)[-6]": "IndexError", "range(5)['a']": "TypeError", "range(0, 10 ** 269)[10 ** 268]": "1" + strings.Repeat("0", 268), "range(5)[big]": "IndexError", "range(5)[-big]": "IndexError", "range(10, 0, -3)[-1]": "1", "range(10, 0, -3)[True]": "7",
		"l[1:]": "[2, 3]", "l[:-1]": "[1, 2]", "l[:]": "[1, 2, 3]", "l[2:1]": "[]", "l[-big:big]": "[1, 2, 3]", "l[big:]": "[]", "l[None:True]": "[1]", "l['a':]": "TypeError", "l[:1.0]": "TypeError", "'abc'[1:2]": "'b'", "(1, 2, 3)[-2:]": "(2, 3)", "d[1:2]": "TypeError", "range(5)[1:2]": "TypeError", "l[-9:-8]": "[]",
		"{1: 'a', 1.0: 'b', True: 'c'}": "{1: 'c'}", "{1, 1.0, True}": "{1}", "{[]}": "TypeError", "{[]: 1}": "TypeError", "{(): 1, None: 2, 'x': 3}": "{(): 1, None: 2, 'x': 3}", "{nan: 1, nan: 2}": "{nan: 1, nan: 2}", "{([],)}": "TypeError", "len({a, b, f, len, A, ValueError})": "6", "{a: 1}[a]": "1", "{range(3)}": "TypeError", "{tup} is None": "False", "{(tup,)}": "RuntimeError",
		"[x for x in l]": "[1, 2, 3]", "[x for x in d]": "['a', 2]", "[x for x in 'ab']": "['a', 'b']", "[x for x in g(3)]": "[0, 1, 2]", "[x for x in s]": "[1, 2]", "[x for x in 5]": "TypeError", "[x for x in a]": "TypeError", "[x for x in None]": "TypeError", "{x: x for x in range(3)}": "{0: 0, 1: 1, 2: 2}", "{x % 2 for x in range(5)}": "{0, 1}", "[x + y for x, y in [(1, 2), 'ab', [3, 4]]]": "[3, 'ab', 7]", "[x for x, in [1]]": "TypeError", "[x for x, y in [(1,)]]": "ValueError", "[x for x, y in ['abc']]": "ValueError", "[x for x in range(5, 0, -2)]": "[5, 3, 1]", "[x for x in range(10 ** 20, 10 ** 20 + 3)]": "[100000000000000000000, 100000000000000000001, 100000000000000000002]", "[x for x in range(999999999999999998, 1000000000000000001)]": "[999999999999999998, 999999999999999999, 1000000000000000000]",
	})
}

func TestBuiltins(t *testing.T) {
	values(t, long, map[string]string{
		"print()": "/None", "print(1, 'a', [\"b\"])": "1 a ['b']/None", "print(n)": strings.Repeat("x", 20000) + "/None", "print(n, '')": "OverflowError", "print(deeper)": "RuntimeError", "print(1, [deep, [deeper]])": "RuntimeError", "print(ValueError('x', 1), ValueError('y'), ValueError(), ValueError)": "('x', 1) y  <class ValueError>/None", "print([ValueError('x')])": "[<ValueError>]/None",
		"len(l)": "3", "len('ab')": "2", "len(d)": "2", "len(s)": "2", "len(range(0, 10, 3))": "4", "len(range(0, -10, 3))": "0", "len(range(0, -10, -3))": "4", "len(range(-10 ** 269, 10 ** 269))": "2" + strings.Repeat("0", 269), "len(())": "0", "len(1)": "TypeError", "len(a)": "TypeError", "len(g(1))": "TypeError", "len()": "TypeError", "len(l, l)": "TypeError", "len(iter(l))": "TypeError",
		"range(3)": "range(0, 3, 1)", "range(1, True)": "range(1, 1, 1)", "range(5, 0, -1)": "range(5, 0, -1)", "range(1, 2, 0)": "ValueError", "range(1, 2, False)": "ValueError", "range(1.0)": "TypeError", "range('a')": "TypeError", "range()": "TypeError", "range(1, 2, 3, 4)": "TypeError", "len(range(10 ** 269))": "1" + strings.Repeat("0", 269), "range(10 ** 270)": "OverflowError", "range(0, -10 ** 270)": "OverflowError", "range(0, 1, 10 ** 270)": "OverflowError", "range(10 ** 270, 'a')": "OverflowError", "range('a', 10 ** 270)": "TypeError", "range(10 ** 270, 1, 0)": "OverflowError",
		"str()": "''", "str(1.0)": "'1.0'", "str('a')": "'a'", "str(['a'])": "'[\\'a\\']'", "str(ValueError(5))": "'5'", "str(a)": "'<A>'", "str(1, 2)": "TypeError", "str(deeper)": "RuntimeError", "str(wide)": "OverflowError", "repr('a')": "'\\'a\\''", "repr(n)": "OverflowError", "repr(ValueError(5))": "'<ValueError>'", "repr(f)": "'<function f>'", "repr(lambda: 1)": "'<function lambda>'", "repr(a.m)": "'<method>'", "repr(len)": "'<builtin len>'", "repr(A)": "'<class A>'", "repr(iter(l))": "'<iterator>'", "repr(g(1))": "'<generator>'", "repr([1].append)": "'<method>'", "repr()": "TypeError", "repr(range(3))": "'range(0, 3, 1)'", "repr(set())": "'set()'", "repr((1,))": "'(1,)'",
		"int()": "0", "int('-007')": "-7", "int(' 7')": "ValueError", "int('')": "ValueError", "int(2.9)": "2", "int(-2.9)": "-2", "int(nan)": "ValueError", "int(inf)": "OverflowError", "int(True)": "1", "int(None)": "TypeError", "int([])": "TypeError", "int(1e22)": "10000000000000000000000", "int('1', 2)": "TypeError", "float()": "0.0", "float('1e5')": "100000.0", "float('-inf')": "-inf", "float('x')": "ValueError", "float(big)": "OverflowError", "float(3)": "3.0", "float(a)": "TypeError", "float(None)": "TypeError", "bool()": "False", "bool('a')": "True", "bool(a)": "True", "bool(0.0)": "False", "bool(g(0))": "True", "bool(1, 2)": "TypeError",
		"list()": "[]", "list('ab')": "['a', 'b']", "list(d)": "['a', 2]", "list(s)": "[1, 2]", "list((1,))": "[1]", "list(range(3, 0, -1))": "[3, 2, 1]", "list(iter([1, 2]))": "[1, 2]", "list(g(3))": "TypeError", "list(a)": "TypeError", "list(1)": "TypeError", "list(range(20001))": "OverflowError", "len(list(range(20000)))": "20000", "list(range(10 ** 100))": "OverflowError", "list(iter(range(20001)))": "OverflowError", "list(iter('ab'))": "['a', 'b']", "list(iter(d))": "['a', 2]", "tuple()": "()", "tuple([1, 2])": "(1, 2)", "tuple('ab')": "('a', 'b')", "tuple(5)": "TypeError", "set()": "set()", "set([1, 1.0, 2])": "{1, 2}", "set([[]])": "TypeError", "set('aab')": "{'a', 'b'}", "set(5)": "TypeError", "dict()": "{}", "dict(d)": "{'a': 1, 2: 'b'}", "dict(d) is d": "False", "dict(l)": "TypeError", "dict([(1, 2)])": "TypeError", "list(l) is l": "False", "tuple(()) is ()": "False",
		"next(iter([5]))": "5", "next(iter([]))": "StopIteration", "next(g(1))": "0", "next(g(0))": "StopIteration", "next(l)": "TypeError", "next(a)": "TypeError", "next(5)": "TypeError", "iter(5)": "TypeError", "iter(a)": "TypeError", "iter(None)": "TypeError", "next(iter(range(2, 5)))": "2", "next(iter(d))": "'a'", "next(iter(''))": "StopIteration", "next(iter(range(0)))": "StopIteration",
		"isinstance(1, int)": "True", "isinstance(True, int)": "True", "isinstance(True, bool)": "True", "isinstance(1, bool)": "False", "isinstance(1.0, float)": "True", "isinstance(1, float)": "False", "isinstance('', str)": "True", "isinstance([], list)": "True", "isinstance((), tuple)": "True", "isinstance({}, dict)": "True", "isinstance(s, set)": "True", "isinstance(range(1), range)": "True", "isinstance(a, A)": "True", "isinstance(b, A)": "False", "isinstance(1, A)": "False", "isinstance(ValueError(), Exception)": "True", "isinstance(ValueError(), TypeError)": "False", "isinstance(ValueError, Exception)": "False", "isinstance(1, (str, (list, int)))": "True", "isinstance(1, (int, 5))": "True", "isinstance(1, (str, 5))": "TypeError", "isinstance(1, ())": "False", "isinstance(1, 5)": "TypeError", "isinstance(1, print)": "TypeError", "isinstance(1, len)": "TypeError", "isinstance(1, [int])": "TypeError", "isinstance(1)": "TypeError", "isinstance(1, f)": "TypeError",
		"hash(1)": "1", "hash('a')": "129", "hash(None)": "1", "hash(())": "0", "hash([])": "TypeError", "hash(len)": "2", "hash(Exception)": "1", "hash(EOFError)": "13", "hash(f)": "14", "hash(d)": "TypeError", "hash(a.m)": "TypeError", "hash(1.0)": "1", "hash(g(1))": "TypeError", "abs(-5)": "5", "abs(-0.0)": "0.0", "abs(True)": "1", "abs(-inf)": "inf", "abs(nan)": "nan", "abs('a')": "TypeError", "abs(-big) == big": "True", "chr(97)": "'a'", "chr(255)": "'\\xff'", "chr(256)": "ValueError", "chr(-1)": "ValueError", "chr(True)": "'\\x01'", "chr(1.0)": "TypeError", "chr(big)": "ValueError", "ord('a')": "97", "ord('ab')": "TypeError", "ord('')": "TypeError", "ord(1)": "TypeError",
		"min(1, 2)": "1", "min(2, 1.0)": "1.0", "min(1, True)": "1", "max(1, True)": "1", "max(1, 2)": "2", "min(nan, 1)": "nan", "max(1, nan)": "1", "min('a', 1)": "TypeError", "max([1], [2])": "[2]", "min(1)": "TypeError", "min(1, 2, 3)": "TypeError",
		"l.append(4)": "None", "l.append()": "TypeError", "l.pop()": "3", "[].pop()": "IndexError", "l.pop(0)": "TypeError", "d.get('a')": "1", "d.get('z')": "None", "d.get([])": "TypeError", "d.keys()": "['a', 2]", "s.add(5)": "None", "s.add([])": "TypeError", "s.discard(9)": "None", "s.discard([])": "TypeError", "', '.join(['a', 'b'])": "'a, b'", "''.join(())": "''", "'x'.join([1])": "TypeError", "'x'.join('ab')": "TypeError", "len(n.join(['', '']))": "20000", "n.join(['a', ''])": "OverflowError", "wide.append(1)": "None", "l.foo": "AttributeError", "l.get": "AttributeError", "(1).real": "AttributeError", "None.x": "AttributeError", "f.x": "AttributeError", "'a'.append": "AttributeError",
		"a.v": "5", "a.w": "7", "a.z": "AttributeError", "a.m(1)": "6", "A.m(a, 2)": "7", "A.v": "5", "A.z": "AttributeError", "ValueError.v": "AttributeError", "ValueError('x', 2).args": "('x', 2)", "ValueError().args": "()", "A(1, 2)": "TypeError", "A()": "TypeError", "B(1)": "TypeError", "isinstance(B(), B)": "True", "f(1)": "TypeError", "f(1, 2)": "(1, 2)", "f(1, 2, 3)": "TypeError", "(lambda: 5)()": "5", "5()": "TypeError", "None()": "TypeError", "a()": "TypeError", "'a'()": "TypeError", "zzz": "NameError", "len": "<builtin len>", "Exception(1) is Exception": "False", "input()": "EOFError",
	})
}
