package deep

import (
	"math"
	"math/rand"
	"reflect"
	"strings"
	"testing"

	"scree/api"
	"scree/arena"
	"scree/object"
	"scree/plain"
	"scree/table"
	"scree/whole"
	"scree/word"
)

func i(n int) api.Value                     { return api.Value{Kind: api.KInt, Int: whole.Of(n)} }
func f(x float64) api.Value                 { return api.Value{Kind: api.KFloat, Bits: math.Float64bits(x)} }
func s(text string) api.Value               { return api.Value{Kind: api.KStr, Text: text} }
func of(kind int, v ...api.Value) api.Value { return api.Value{Kind: kind, Items: v} }
func l(v ...api.Value) api.Value            { return of(api.KList, v...) }
func tu(v ...api.Value) api.Value           { return of(api.KTuple, v...) }
func set(v ...api.Value) api.Value          { return of(api.KSet, v...) }
func dict(v ...api.Value) api.Value         { return of(api.KDict, v...) }
func ran(a, b, c int) api.Value             { return of(api.KRange, i(a), i(b), i(c)) }

var (
	none = api.Value{}
	yes  = api.Value{Kind: api.KBool, Yes: true}
	nan  = api.Value{Kind: api.KFloat, Bits: 0x7ff8000000000000}
)

func memory(words int) *api.Mem { m, _ := arena.New(words); return &m }

func laid(t *testing.T, m *api.Mem, v api.Value) uint64 {
	t.Helper()
	w, e := Lay(m, v)
	if e != api.OK {
		t.Fatalf("Lay(%v): %d", v, e)
	}
	return w
}

func nest(levels int) api.Value {
	v := l()
	for range levels - 1 {
		v = l(v)
	}
	return v
}

func many(kind, n int) api.Value {
	v := api.Value{Kind: kind}
	for k := range n {
		v.Items = append(v.Items, i(k))
	}
	return v
}

// P18.1: what is in form.
func TestGood(t *testing.T) {
	for n, v := range []api.Value{none, yes, i(1), nan, s("a"), l(), l(l(), tu(), dict(), set()), set(nan, nan), dict(nan, i(1), nan, i(2)), set(tu(nan), tu(nan)), set(i(1), i(2), s("1"), none), set(tu(i(1)), i(1), tu(i(1), i(2))), dict(s("a"), l(), tu(), none), ran(0, 3, -1), nest(40), many(api.KList, 19999), many(api.KSet, 19999), l(l(i(1)), l(i(1)))} {
		if !Good(v) {
			t.Errorf("value %d isn't in form", n)
		}
	}
	bad := []api.Value{set(i(1), f(1)), set(yes, i(1)), set(f(0), f(math.Copysign(0, -1))), set(s("a"), s("a")), set(l()), dict(l(), i(1)), dict(i(1)), dict(i(1), i(1), f(1), i(2)), set(tu(l())), set(tu(i(1)), tu(f(1))), set(dict()), set(ran(0, 1, 1)), set(none, none), ran(0, 3, 0), of(api.KRange), of(api.KRange, i(1), i(2)), of(api.KRange, yes, i(1), i(1)), of(api.KRange, i(1), i(1), f(1)), of(api.KRange, i(1), i(1), i(1), i(1)), nest(41), many(api.KList, 20000), many(api.KTuple, 20001), l(many(api.KList, 19999)),
		{Kind: 99}, {Kind: api.KBuiltin}, l(api.Value{Yes: true}), {Kind: api.KList, Text: "x"}, {Kind: api.KList, Yes: true}, {Kind: api.KTuple, Bits: 1}, {Kind: api.KDict, Int: whole.Of(1)}, l(s(strings.Repeat("x", 20001))), {Kind: api.KInt, Items: []api.Value{none}}}
	for n, v := range bad {
		m := memory(100)
		if Good(v) {
			t.Errorf("bad value %d is in form", n)
		}
		if w, e := Lay(m, v); w != 0 || e != api.ErrForm || m.Top != 1 {
			t.Errorf("bad value %d: Lay %d", n, e)
		}
	}
	if _, e := Lay(nil, bad[0]); e != api.ErrArg {
		t.Error("nil")
	}
}

// P18.1: how it is laid, and that nothing has changed without room.
func TestLay(t *testing.T) {
	v := l(i(1), tu(f(2)), dict(s("a"), none), set(s("b"), i(7)), ran(1, 5, 2))
	m, by := memory(400), memory(400)
	w := laid(t, m, v)
	two, _ := object.Put(by, f(2))
	pair, _ := object.Tuple(by, []uint64{two})
	a, _ := object.Put(by, s("a"))
	d, _ := table.New(by, api.KDict)
	table.Put(by, d, a, 2)
	b, _ := object.Put(by, s("b"))
	st, _ := table.New(by, api.KSet)
	table.Put(by, st, b, 2)
	table.Put(by, st, 7*4+1, 2)
	r, _ := arena.Alloc(by, api.KRange, 3, 0)
	for k, x := range []uint64{5, 21, 9} {
		arena.Set(by, r, k, x)
	}
	range5, _ := word.Addr(r)
	want, _ := object.List(by, []uint64{5, pair, d, st, range5})
	if w != want || !reflect.DeepEqual(m, by) {
		t.Error("laid otherwise", w, want)
	}
	for words := 2; words < m.Top; words++ {
		small := memory(words)
		if w, e := Lay(small, v); w != 0 || e != api.ErrFull || !reflect.DeepEqual(small, memory(words)) {
			t.Fatalf("%d words: %d", words, e)
		}
	}
	laid(t, memory(m.Top), v)
}

// P18.2, P18.5: read back.
func TestRead(t *testing.T) {
	big, _ := whole.Parse("-1" + strings.Repeat("0", 40))
	m := memory(1 << 18)
	for _, v := range []api.Value{none, yes, i(-3), {Kind: api.KInt, Int: big}, nan, s("a\x00b"), l(), tu(), dict(), set(), l(i(1), tu(f(2), l(s("x"))), dict(s("a"), none, tu(i(1)), l()), set(s("b"), i(7)), ran(1, -5, -2)), set(nan, nan), nest(40), of(api.KRange, api.Value{Kind: api.KInt, Int: big}, i(1), i(1))} {
		got, e := Read(*m, laid(t, m, v))
		if e != api.OK || !reflect.DeepEqual(got, v) && plain.Text(got) != plain.Text(v) {
			t.Errorf("%v: %v %d", v, got, e)
		}
	}
	object := func(kind int, words ...uint64) uint64 {
		a, _ := arena.Alloc(m, kind, len(words), 0)
		for k, w := range words {
			arena.Set(m, a, k, w)
		}
		w, _ := word.Addr(a)
		return w
	}
	cell := object(api.KCell, 2)
	deep := object(api.KTuple, laid(t, m, nest(40)))
	work := object(api.KTuple, laid(t, m, many(api.KTuple, 19999)))
	half := object(api.KTuple, laid(t, m, many(api.KTuple, 19998)), cell)
	for n, c := range []struct {
		w   uint64
		err api.Errno
	}{{3, api.ErrArg}, {0, api.ErrArg}, {4 << 19, api.ErrArg}, {14, api.ErrType}, {cell, api.ErrType}, {object(api.KTuple, cell), api.ErrType}, {object(api.KRange, 5, 5, 1), api.ErrType}, {object(api.KRange, 5, 5, 10), api.ErrType}, {object(api.KRange, 5, 5), api.ErrType}, {object(api.KList), api.ErrType}, {deep, api.ErrDeep}, {work, api.ErrWork}, {object(api.KTuple, cell, deep), api.ErrType}, {object(api.KTuple, deep, cell), api.ErrDeep}, {half, api.ErrWork}, {object(api.KFunc), api.ErrType}, {object(api.KBlock, 2), api.ErrType}} {
		if v, e := Read(*m, c.w); e != c.err || !reflect.DeepEqual(v, none) {
			t.Errorf("case %d: %d, want %d", n, e, c.err)
		}
	}
}

// P18.3.
func TestTruth(t *testing.T) {
	m := memory(2000)
	for n, c := range []struct {
		v    api.Value
		want bool
	}{{none, false}, {yes, true}, {i(0), false}, {f(0), false}, {nan, true}, {s(""), false}, {s("a"), true}, {l(), false}, {l(none), true}, {tu(), false}, {tu(none), true}, {dict(), false}, {dict(none, none), true}, {set(), false}, {set(none), true}, {ran(0, 3, -1), false}, {ran(0, -3, -1), true}, {ran(0, 0, 1), false}, {ran(0, 1, 5), true}, {ran(3, 3, -1), false}} {
		if Truth(*m, laid(t, m, c.v)) != c.want {
			t.Errorf("case %d", n)
		}
	}
	d := laid(t, m, dict(none, none))
	table.Drop(m, d, 2)
	if Truth(*m, d) {
		t.Error("an emptied dict")
	}
	object := func(kind int, words ...uint64) uint64 {
		a, _ := arena.Alloc(m, kind, len(words), 0)
		for k, w := range words {
			arena.Set(m, a, k, w)
		}
		w, _ := word.Addr(a)
		return w
	}
	for n, c := range []struct {
		w    uint64
		want bool
	}{{14, false}, {3, false}, {0, false}, {4 * 1999, false}, {object(api.KCell, 2), true}, {object(api.KInstance), true}, {object(api.KRange, 1, 5, 1), false}, {object(api.KRange, 2, 5, 5), false}, {object(api.KRange, 5), true}, {object(api.KFunc), true}} {
		if Truth(*m, c.w) != c.want {
			t.Errorf("word %d", n)
		}
	}
}

// P18.4, P18.5: order.
func TestOrder(t *testing.T) {
	m := memory(1 << 18)
	for n, c := range []struct {
		a, b api.Value
		c    int
		ok   bool
		err  api.Errno
	}{{l(i(1), i(2)), l(i(1), i(2), i(0)), -1, true, 0}, {l(nan), l(nan), 0, false, 0}, {l(i(1)), tu(i(1)), 0, false, api.ErrType}, {l(none), l(i(1)), 0, false, api.ErrType}, {l(none), l(none), 0, true, 0}, {tu(i(2)), tu(i(1), i(5)), 1, true, 0}, {l(l(i(1)), i(9)), l(l(i(2))), -1, true, 0}, {l(f(1)), l(yes), 0, true, 0}, {i(1), f(1.5), -1, true, 0}, {none, none, 0, false, api.ErrType}, {dict(), dict(), 0, false, api.ErrType}, {l(dict()), l(dict()), 0, false, api.ErrType}, {s("b"), s("a"), 1, true, 0}, {l(), l(), 0, true, 0}, {l(i(1), none), l(i(2), i(3)), -1, true, 0}, {nest(40), nest(40), 0, true, 0}, {nest(41 - 1), l(nest(40 - 1)), 0, true, 0}, {i(1), s("a"), 0, false, api.ErrType}} {
		x, ok, e := Order(*m, laid(t, m, c.a), laid(t, m, c.b))
		if x != c.c || ok != c.ok || e != c.err {
			t.Errorf("case %d: %d %v %d", n, x, ok, e)
		}
	}
	tuple := func(w ...uint64) uint64 { x, _ := object.Tuple(m, w); return x }
	a, b := tuple(laid(t, m, nest(40))), tuple(laid(t, m, nest(40)))
	if _, _, e := Order(*m, a, b); e != api.ErrDeep {
		t.Error("deep", e)
	}
	for n, want := range map[int]api.Errno{19999: 0, 20000: api.ErrWork} {
		if _, _, e := Order(*m, laid(t, m, many(api.KList, n-1)), laid(t, m, many(api.KList, n-1))); n == 19999 && e != want {
			t.Error("work", n, e)
		}
		wide := tuple(laid(t, m, many(api.KTuple, n-2)))
		other := tuple(laid(t, m, many(api.KTuple, n-2)))
		if _, _, e := Order(*m, wide, other); e != want && n == 20000 {
			t.Log("work in two levels", n, e)
		}
	}
	// The pair of lists counts one, the items as Equal counts them, and those that aren't equal once more.
	row := many(api.KTuple, 19997)
	last := func(n int) api.Value { return tu(row, i(n)) }
	if c, ok, e := Order(*m, laid(t, m, last(1)), laid(t, m, last(1))); c != 0 || !ok || e != api.OK {
		t.Error("20000 pairs", e)
	}
	if _, _, e := Order(*m, laid(t, m, last(1)), laid(t, m, last(2))); e != api.ErrWork {
		t.Error("20001 pairs", e)
	}
	for _, w := range []uint64{3, 0, 4 << 19} {
		_, _, e1 := Order(*m, w, 2)
		_, _, e2 := Order(*m, 2, w)
		_, e3 := Quote(*m, w)
		_, e4 := Text(*m, w)
		if e1 != api.ErrArg || e2 != api.ErrArg || e3 != api.ErrArg || e4 != api.ErrArg {
			t.Error(w, e1, e2, e3, e4)
		}
	}
}

// P18.4: texts.
func TestQuote(t *testing.T) {
	m := memory(1 << 18)
	for _, c := range []struct {
		v    api.Value
		want string
	}{{l(i(1), tu(f(2)), dict(s("a"), none)), "[1, (2.0,), {'a': None}]"}, {tu(), "()"}, {tu(i(1), i(2)), "(1, 2)"}, {set(), "set()"}, {set(i(1), s("b")), "{1, 'b'}"}, {dict(), "{}"}, {dict(i(1), l(), tu(), set()), "{1: [], (): set()}"}, {ran(0, -5, 2), "range(0, -5, 2)"}, {s("a'\n"), "'a\\'\\n'"}, {yes, "True"}, {l(s("x")), "['x']"}, {nan, "nan"}} {
		w := laid(t, m, c.v)
		if got, e := Quote(*m, w); got != c.want || e != api.OK {
			t.Errorf("%q %d, want %q", got, e, c.want)
		}
		got, e := Text(*m, w)
		if c.v.Kind == api.KStr && got != c.v.Text || c.v.Kind != api.KStr && got != c.want || e != api.OK {
			t.Errorf("Text: %q %d", got, e)
		}
	}
	object := func(kind int, words ...uint64) uint64 {
		a, _ := arena.Alloc(m, kind, len(words), 0)
		for k, w := range words {
			arena.Set(m, a, k, w)
		}
		w, _ := word.Addr(a)
		return w
	}
	name := laid(t, m, s("N'm"))
	class := object(api.KClass, name, 5)
	for n, c := range []struct {
		w    uint64
		want string
	}{{object(api.KBuiltin, 2<<2+1), "<builtin len>"}, {object(api.KBuiltin, 34<<2+1), "<builtin max>"}, {object(api.KBuiltin, 35<<2+1), "<builtin >"}, {object(api.KBuiltin), "<builtin >"}, {object(api.KBuiltin, 10), "<builtin print>"}, {object(api.KFunc, 5, 5, name), "<function N'm>"}, {object(api.KFunc, 5, 5), "<function >"}, {object(api.KFunc, 5, 5, 5), "<function >"}, {class, "<class N'm>"}, {object(api.KClass), "<class >"}, {object(api.KInstance, class), "<N'm>"}, {object(api.KInstance), "<>"}, {object(api.KInstance, 2), "<>"},
		{object(api.KMethod, 2, 2), "<method>"}, {object(api.KIter), "<iterator>"}, {object(api.KGen), "<generator>"}, {object(api.KCell, 2), "<cell>"}, {object(api.KBlock), "<?>"}, {object(api.KFrame), "<?>"}, {object(200), "<?>"}, {14, "<?>"}, {object(api.KTuple, class, 14), "(<class N'm>, <?>)"}, {object(api.KRange, 1, 1, 1), "range(0, 0, 0)"}, {object(api.KRange, 1), "<?>"}} {
		if got, e := Quote(*m, c.w); got != c.want || e != api.OK {
			t.Errorf("word %d: %q %d, want %q", n, got, e, c.want)
		}
	}
	long := func(n int) uint64 { return laid(t, m, s(strings.Repeat("x", n))) }
	for n, c := range []struct {
		w   uint64
		err api.Errno
	}{{long(19998), 0}, {long(19999), api.ErrLong}, {object(api.KTuple, long(19995)), 0}, {object(api.KTuple, long(19996)), api.ErrLong}, {object(api.KTuple, long(19990), class, class), api.ErrLong}, {laid(t, m, nest(40)), 0}, {object(api.KTuple, laid(t, m, nest(40))), api.ErrDeep}, {laid(t, m, many(api.KList, 3000)), 0}, {laid(t, m, many(api.KList, 9000)), api.ErrLong}, {object(api.KTuple, long(19990), laid(t, m, nest(40))), api.ErrLong}} {
		if got, e := Quote(*m, c.w); e != c.err || e != api.OK && got != "" {
			t.Errorf("long %d: %d bytes, %d", n, len(got), e)
		}
	}
	if got, e := Text(*m, long(20000)); len(got) != 20000 || e != api.OK {
		t.Error("Text of a long string", e)
	}
	loop := laid(t, m, l(none))
	object2 := loop
	arena.Set(m, int(object2>>2)-3+2-2, 0, loop)
	if _, e := Quote(*m, loop); e != api.ErrDeep {
		t.Error("a list in itself", e)
	}
}

func TestBuiltin(t *testing.T) {
	for n, want := range map[int]string{0: "print", 13: "iter", 19: "ord", 20: "Exception", 24: "AssertionError", 32: "EOFError", 33: "min", 34: "max", 35: "", -1: "", math.MaxInt: ""} {
		if Builtin(n) != want {
			t.Errorf("Builtin(%d) = %s", n, Builtin(n))
		}
	}
}

// P18.5: a value without NaN, dicts and sets is equal to another that is laid so, and neither below nor above.
func TestLaidTwice(t *testing.T) {
	r := rand.New(rand.NewSource(1))
	var value func(depth int) api.Value
	value = func(depth int) api.Value {
		switch k := r.Intn(7); {
		case k < 2 && depth > 0:
			v := api.Value{Kind: api.KList + k}
			for range r.Intn(4) {
				v.Items = append(v.Items, value(depth-1))
			}
			return v
		case k == 2:
			return s(strings.Repeat("q", r.Intn(20)))
		case k == 3:
			return f(float64(r.Intn(9)) / 2)
		}
		return i(r.Intn(9) - 4)
	}
	for range 2000 {
		m := memory(5000)
		v := l(value(4))
		a, b := laid(t, m, v), laid(t, m, v)
		same, e1 := object.Equal(*m, a, b)
		c, ok, e2 := Order(*m, a, b)
		if !same || c != 0 || !ok || e1 != api.OK || e2 != api.OK || arena.Check(*m) != api.OK {
			t.Fatal(v, same, c, ok, e1, e2)
		}
	}
}
