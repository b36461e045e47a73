package object

import (
	"math"
	"math/rand"
	"reflect"
	"strings"
	"testing"

	"scree/api"
	"scree/arena"
	"scree/plain"
	"scree/whole"
	"scree/word"
)

func i(n int) api.Value       { return api.Value{Kind: api.KInt, Int: whole.Of(n)} }
func f(x float64) api.Value   { return api.Value{Kind: api.KFloat, Bits: math.Float64bits(x)} }
func s(text string) api.Value { return api.Value{Kind: api.KStr, Text: text} }

const none, no, yes, unbound = 2, 6, 10, 14

func memory(t *testing.T, words int) *api.Mem {
	t.Helper()
	m, e := arena.New(words)
	if e != api.OK {
		t.Fatal(e)
	}
	return &m
}

func put(t *testing.T, m *api.Mem, v api.Value) uint64 {
	t.Helper()
	w, e := Put(m, v)
	if e != api.OK {
		t.Fatal(e)
	}
	return w
}

func small(n int) uint64 { w, _ := word.Small(n); return w }

func copied(m *api.Mem) api.Mem { return api.Mem{W: append([]uint64{}, m.W...), Top: m.Top} }

func raws(m *api.Mem, w uint64) []uint64 {
	a, _ := word.At(w)
	tagged, raw, _ := arena.Size(*m, a)
	out := []uint64{}
	for k := range tagged + raw {
		x, _ := arena.Get(*m, a, k)
		out = append(out, x)
	}
	return out
}

// P16.1: layouts, and back.
func TestPutTake(t *testing.T) {
	big, _ := whole.Parse("-12345678901234567890123")
	nan := api.Value{Kind: api.KFloat, Bits: 0x7ff8000000000000}
	for _, c := range []struct {
		v    api.Value
		kind int // 0: the word itself
		raw  []uint64
	}{
		{i(5), 0, []uint64{21}}, {api.Value{}, 0, []uint64{none}}, {api.Value{Kind: api.KBool}, 0, []uint64{no}}, {api.Value{Kind: api.KBool, Yes: true}, 0, []uint64{yes}}, {i(999999999999999999), 0, []uint64{3999999999999999997}}, {i(-999999999999999999), 0, []uint64{small(-999999999999999999)}}, {s("ab"), api.KStr, []uint64{2, 25185}}, {i(1000000000000000000), api.KInt, []uint64{0, 0, 1}},
		{api.Value{Kind: api.KInt, Int: big}, api.KInt, []uint64{1, 678901234567890123, 12345}}, {f(math.Copysign(0, -1)), api.KFloat, []uint64{1 << 63}}, {nan, api.KFloat, []uint64{0x7ff8000000000000}}, {s(""), api.KStr, []uint64{0}}, {s("12345678"), api.KStr, []uint64{8, 0x3837363534333231}}, {s("12345678\xff"), api.KStr, []uint64{9, 0x3837363534333231, 255}}, {s("\x00"), api.KStr, []uint64{1, 0}},
	} {
		m := memory(t, 100)
		w := put(t, m, c.v)
		if c.kind == 0 {
			if w != c.raw[0] || m.Top != 1 {
				t.Errorf("Put(%v) = %d", c.v, w)
			}
		} else if a, _ := word.At(w); a != 1 || !reflect.DeepEqual(raws(m, w), c.raw) {
			t.Errorf("Put(%v): %v", c.v, raws(m, w))
		} else if k, _ := arena.Kind(*m, a); k != c.kind {
			t.Errorf("Put(%v): kind %d", c.v, k)
		}
		v, e := Take(*m, w)
		if e != api.OK || v.Kind != c.v.Kind || plain.Text(v) != plain.Text(c.v) || v.Yes != c.v.Yes || arena.Check(*m) != api.OK {
			t.Errorf("Take: %v %d", v, e)
		}
	}
	m := memory(t, 100)
	if w := put(t, m, api.Value{Kind: api.KFloat, Bits: 0xfff0000000000123}); raws(m, w)[0] != 0x7ff8000000000000 {
		t.Error("NaN has another pattern")
	}
	for _, v := range []api.Value{{Kind: api.KList}, {Yes: true}, {Kind: 77}, s(strings.Repeat("x", 20001))} {
		if w, e := Put(m, v); w != 0 || e != api.ErrForm {
			t.Errorf("Put(%v): %d", v, e)
		}
	}
	if _, e := Put(nil, api.Value{Kind: 77}); e != api.ErrArg {
		t.Error("nil")
	}
	tight := memory(t, 5)
	for _, v := range []api.Value{s("123456789012345678"), {Kind: api.KInt, Int: big}} {
		keep := copied(tight)
		if w, e := Put(tight, v); w != 0 || e != api.ErrFull || !reflect.DeepEqual(copied(tight), keep) {
			t.Errorf("Put(%v) into 4 words: %d", v, e)
		}
	}
	put(t, tight, s("12345678"))
	if _, e := Put(tight, f(1)); e != api.ErrFull {
		t.Error("a float without room")
	}
}

// P16.1: objects that aren't of the table's layout.
func TestTakeRefused(t *testing.T) {
	for n, c := range []struct {
		kind, tagged int
		raw          []uint64
	}{{api.KInt, 0, []uint64{0, 5}}, {api.KInt, 0, []uint64{2, 0, 1}}, {api.KInt, 0, []uint64{0, 1, 0}}, {api.KInt, 0, []uint64{0, 1000000000000000000, 1}}, {api.KInt, 0, nil}, {api.KInt, 1, []uint64{0, 0, 1}}, {api.KInt, 0, append(make([]uint64, 31), 1)}, {api.KFloat, 0, []uint64{0x7ff8000000000001}}, {api.KFloat, 0, nil}, {api.KFloat, 0, []uint64{0, 0}}, {api.KFloat, 1, []uint64{0}}, {api.KFloat, 1, nil},
		{api.KStr, 0, nil}, {api.KStr, 0, []uint64{1}}, {api.KStr, 0, []uint64{1, 256}}, {api.KStr, 0, []uint64{0, 0}}, {api.KStr, 1, []uint64{0}}, {api.KStr, 0, []uint64{1 << 63}}, {api.KStr, 0, append([]uint64{20001}, make([]uint64, 2501)...)}, {api.KTuple, 0, nil}, {api.KList, 2, nil}, {99, 0, nil}, {api.KNone + 200, 0, nil}} {
		m := memory(t, 4000)
		a, _ := arena.Alloc(m, c.kind, c.tagged, len(c.raw))
		for k, w := range c.raw {
			arena.Set(m, a, c.tagged+k, w)
		}
		w, _ := word.Addr(a)
		if v, e := Take(*m, w); v.Kind != 0 || e != api.ErrType {
			t.Errorf("case %d: %v %d", n, v, e)
		}
	}
	m := memory(t, 10)
	for _, w := range []uint64{unbound, 0, 3, 4, 1 << 63} {
		if _, e := Take(*m, w); e != api.ErrType {
			t.Errorf("Take(%d): %d", w, e)
		}
	}
}

// P16.2, P16.3.
func TestLists(t *testing.T) {
	m := memory(t, 200)
	l, e := List(m, []uint64{21, none})
	if e != api.OK || !reflect.DeepEqual(m.W[:9], []uint64{0, api.KBlock + 2<<8 + 4<<32, 0, 21, none, api.KList + 2<<8 + 4<<32, 0, small(2), 4}) || l != 5*4 {
		t.Fatal(l, e, m.W[:9])
	}
	items := func(want ...uint64) {
		t.Helper()
		got, e := Items(*m, l)
		if e != api.OK || len(got) != len(want) || len(want) > 0 && !reflect.DeepEqual(got, want) || arena.Check(*m) != api.OK {
			t.Fatalf("%v %d, want %v", got, e, want)
		}
	}
	items(21, none)
	if e := Append(m, l, yes); e != api.OK || m.Top != 15 || raws(m, l)[1] != 9*4 {
		t.Fatal("Append", e, m.Top)
	}
	items(21, none, yes)
	Append(m, l, no)
	items(21, none, yes, no)
	if m.Top != 15 {
		t.Error("room for four")
	}
	Append(m, l, small(7))
	items(21, none, yes, no, small(7))
	if m.Top != 25 {
		t.Error("room for eight", m.Top)
	}
	for _, want := range []uint64{small(7), no, yes} {
		if w, e := Pop(m, l); w != want || e != api.OK {
			t.Error("Pop", w, e)
		}
	}
	if raws(m, raws(m, l)[1])[2] != none {
		t.Error("None doesn't stand in its place")
	}
	if e := SetAt(m, l, 1, unbound); e != api.OK {
		t.Error("SetAt", e)
	}
	items(21, unbound)
	for _, k := range []int{2, -1, math.MaxInt} {
		if e := SetAt(m, l, k, none); e != api.ErrArg {
			t.Error("SetAt", k, e)
		}
	}
	Pop(m, l)
	Pop(m, l)
	items()
	if w, e := Pop(m, l); w != 0 || e != api.ErrNone {
		t.Error("Pop of an empty list", w, e)
	}
	empty, e := List(m, nil)
	if e != api.OK || !reflect.DeepEqual(raws(m, empty), []uint64{small(0), none}) {
		t.Error("an empty list", e)
	}
	l = empty
	Append(m, l, yes)
	items(yes)
	if a, _ := word.At(raws(m, l)[1]); a == 0 {
		t.Error("no block")
	} else if tagged, _, _ := arena.Size(*m, a); tagged != 4 {
		t.Error("a room of", tagged)
	}
	tu, e := Tuple(m, []uint64{l, none})
	if got, e2 := Items(*m, tu); e != api.OK || e2 != api.OK || !reflect.DeepEqual(got, []uint64{l, none}) {
		t.Error("a tuple", got, e, e2)
	}
}

// The errors, in their order, and that nothing changes.
func TestRefused(t *testing.T) {
	m := memory(t, 30)
	l, _ := List(m, []uint64{none})
	tu, _ := Tuple(m, nil)
	str := put(t, m, s("x"))
	many := make([]uint64, 20001)
	for k := range many {
		many[k] = none
	}
	keep := copied(m)
	list := func(items []uint64) api.Errno { _, e := List(m, items); return e }
	tuple := func(items []uint64) api.Errno { _, e := Tuple(m, items); return e }
	item := func(w uint64) api.Errno { _, e := Items(*m, w); return e }
	pop := func(w uint64) api.Errno { _, e := Pop(m, w); return e }
	for n, c := range [][2]api.Errno{
		{list(many), api.ErrLong}, {tuple(many), api.ErrLong}, {list(append([]uint64{3}, many...)), api.ErrArg}, {list(many[:20]), api.ErrFull}, {tuple(many[:20]), api.ErrFull}, {list(many[:11]), api.ErrFull}, {list([]uint64{4 * 2000}), api.ErrArg}, {tuple([]uint64{0}), api.ErrArg}, {item(str), api.ErrArg}, {item(none), api.ErrArg}, {item(3), api.ErrArg}, {item(5 << 20), api.ErrArg},
		{Append(m, tu, none), api.ErrArg}, {Append(m, l, 3), api.ErrArg}, {Append(m, none, none), api.ErrArg}, {Append(nil, l, none), api.ErrArg}, {pop(tu), api.ErrArg}, {pop(3), api.ErrArg}, {SetAt(m, tu, 0, none), api.ErrArg}, {SetAt(m, l, 0, 0), api.ErrArg}, {SetAt(nil, l, 0, none), api.ErrArg}, {SetAt(m, l, 1, none), api.ErrArg},
	} {
		if c[0] != c[1] {
			t.Errorf("call %d: %d, want %d", n, c[0], c[1])
		}
	}
	if !reflect.DeepEqual(copied(m), keep) {
		t.Error("refused calls changed something")
	}
	if _, e := List(nil, nil); e != api.ErrArg {
		t.Error("nil")
	}
	for m.Top < 30 {
		if _, e := arena.Alloc(m, 200, 0, min(1, 30-m.Top-2)); e != api.OK {
			break
		}
	}
	keep = copied(m)
	if e := Append(m, l, none); e != api.ErrFull || !reflect.DeepEqual(copied(m), keep) {
		t.Error("Append without room", e)
	}
	large := memory(t, 1<<17)
	l, _ = List(large, many[:20000])
	if e := Append(large, l, none); e != api.ErrLong {
		t.Error("Append to 20000", e)
	}
	Pop(large, l)
	if e := Append(large, l, none); e != api.OK {
		t.Error("Append to 19999", e)
	}
	// What only seems a list isn't one.
	for _, words := range [][2]uint64{{small(1), none}, {small(-1), none}, {yes, none}, {small(0), yes}, {small(3), l}} {
		a, _ := arena.Alloc(large, api.KList, 2, 0)
		arena.Set(large, a, 0, words[0])
		arena.Set(large, a, 1, words[1])
		w, _ := word.Addr(a)
		if _, e := Items(*large, w); e != api.ErrArg {
			t.Errorf("%v: %d", words, e)
		}
	}
}

// P16.4, P16.5: equality.
func TestEqual(t *testing.T) {
	m := memory(t, 2000)
	l := func(items ...uint64) uint64 { w, _ := List(m, items); return w }
	tu := func(items ...uint64) uint64 { w, _ := Tuple(m, items); return w }
	nan := put(t, m, api.Value{Kind: api.KFloat, Bits: 0x7ff8000000000000})
	one, two := put(t, m, f(1)), put(t, m, f(2))
	text, same := put(t, m, s("abc")), put(t, m, s("abc"))
	withNaN := l(nan)
	cell, _ := arena.Alloc(m, api.KCell, 1, 0)
	other, _ := arena.Alloc(m, api.KCell, 1, 0)
	c1, _ := word.Addr(cell)
	c2, _ := word.Addr(other)
	for n, c := range []struct {
		a, b uint64
		want bool
	}{{l(small(1), two), l(one, small(2)), true}, {withNaN, l(nan), false}, {withNaN, withNaN, true}, {nan, nan, false}, {text, same, true}, {text, put(t, m, s("abd")), false}, {l(), l(), true}, {l(), tu(), false}, {tu(), tu(), true}, {tu(l(text)), tu(l(same)), true}, {l(none), l(none, none), false}, {c1, c1, true}, {c1, c2, false}, {unbound, unbound, true}, {unbound, none, false}, {none, no, false}, {yes, one, true}, {small(1), one, true}, {c1, one, false}, {l(c1), l(c1), true}} {
		if got, e := Equal(*m, c.a, c.b); got != c.want || e != api.OK {
			t.Errorf("case %d: %v %d", n, got, e)
		}
		ha, e1 := Hash(*m, c.a)
		hb, e2 := Hash(*m, c.b)
		if c.want && e1 == api.OK && e2 == api.OK && ha != hb {
			t.Errorf("case %d: hashes %d %d", n, ha, hb)
		}
	}
	for _, w := range []uint64{0, 3, 4 * 1999, 1 << 40} {
		_, e1 := Equal(*m, w, none)
		_, e2 := Equal(*m, none, w)
		_, e3 := Hash(*m, w)
		if e1 != api.ErrArg || e2 != api.ErrArg || e3 != api.ErrArg {
			t.Errorf("%d: %d %d %d", w, e1, e2, e3)
		}
	}
}

// P16.4: hashes.
func TestHash(t *testing.T) {
	m := memory(t, 2000)
	object := func(kind int, words ...uint64) uint64 {
		a, _ := arena.Alloc(m, kind, len(words), 0)
		for k, w := range words {
			arena.Set(m, a, k, w)
		}
		w, _ := word.Addr(a)
		return w
	}
	l, _ := List(m, nil)
	unit, _ := Tuple(m, nil)
	for n, c := range []struct {
		w    uint64
		want int
		err  api.Errno
	}{{none, 1, 0}, {yes, 1, 0}, {small(-7), -7, 0}, {put(t, m, s("a")), 129, 0}, {put(t, m, f(0.5)), 1 << 30, 0}, {l, 0, api.ErrHash}, {unit, 0, 0}, {object(api.KTuple, small(1)), 33, 0}, {object(api.KTuple, small(-1)), 31 + 1<<31 - 2 + 1 - (1<<31 - 1), 0}, {object(api.KTuple, unit, small(2)), ((31*2+0+1)*31 + 2 + 1), 0}, {object(api.KTuple, l), 0, api.ErrHash}, {unbound, 0, api.ErrHash},
		{object(api.KBuiltin, small(7)), 7, 0}, {object(api.KBuiltin), 0, api.ErrHash}, {object(api.KBuiltin, none), 0, api.ErrHash}, {object(api.KFunc, small(7), small(9)), 9, 0}, {object(api.KClass, none, small(3), none), 3, 0}, {object(api.KInstance, none, small(-4)), -4, 0}, {object(api.KFunc, small(7)), 0, api.ErrHash}, {object(api.KClass, none, yes), 0, api.ErrHash}, {object(api.KDict, small(0)), 0, api.ErrHash}, {object(api.KStr), 0, api.ErrHash}, {object(api.KRange, small(0), small(0), small(1)), 0, api.ErrHash}} {
		if got, e := Hash(*m, c.w); got != c.want || e != c.err {
			t.Errorf("case %d: %d %d, want %d %d", n, got, e, c.want, c.err)
		}
	}
}

// P16.4: the bounds of depth and work.
func TestBounds(t *testing.T) {
	m := memory(t, 1<<18)
	nest := func(levels int, put func(*api.Mem, []uint64) (uint64, api.Errno)) uint64 {
		w, _ := put(m, nil)
		for range levels - 1 {
			w, _ = put(m, []uint64{w})
		}
		return w
	}
	for levels, want := range map[int]api.Errno{40: 0, 41: api.ErrDeep} {
		if same, e := Equal(*m, nest(levels, List), nest(levels, List)); e != want || same != (want == 0) {
			t.Errorf("%d levels: %v %d", levels, same, e)
		}
		if _, e := Hash(*m, nest(levels, Tuple)); e != want {
			t.Errorf("%d levels: hash %d", levels, e)
		}
	}
	row := make([]uint64, 19999)
	for k := range row {
		row[k] = small(k)
	}
	for n, want := range map[int]api.Errno{19998: 0, 19999: api.ErrWork} {
		a, _ := Tuple(m, row[:n])
		b, _ := Tuple(m, row[:n])
		wrap, _ := Tuple(m, []uint64{a})
		wrapB, _ := Tuple(m, []uint64{b})
		if _, e := Equal(*m, wrap, wrapB); e != want {
			t.Errorf("%d pairs: %d", n+2, e)
		}
		if _, e := Hash(*m, wrap); e != want {
			t.Errorf("%d values: %d", n+2, e)
		}
	}
	a, _ := Tuple(m, row)
	loop, _ := List(m, []uint64{none})
	SetAt(m, loop, 0, loop)
	other, _ := List(m, []uint64{loop})
	SetAt(m, other, 0, other)
	if _, e := Equal(*m, loop, other); e != api.ErrDeep {
		t.Error("a list in itself", e)
	}
	if same, e := Equal(*m, a, a); !same || e != api.OK {
		t.Error("one object")
	}
}

// P16.6, and P1 with memories of any words.
func TestAnyMemory(t *testing.T) {
	items := append(make([]uint64, 0, 9), none, yes)
	m := memory(t, 100)
	l, _ := List(m, items)
	got, _ := Items(*m, l)
	got[0] = 99
	_ = append(got, 5)
	again, _ := Items(*m, l)
	if items[0] != none || again[0] != none {
		t.Error("memory is shared")
	}
	r := rand.New(rand.NewSource(1))
	for range 3000 {
		odd := api.Mem{W: make([]uint64, r.Intn(40)), Top: r.Intn(42) - 1}
		for k := range odd.W {
			odd.W[k] = r.Uint64() >> r.Intn(64)
			if r.Intn(2) == 0 {
				odd.W[k] = uint64(r.Intn(20)) + uint64(r.Intn(4))<<8 + uint64(r.Intn(9))<<32
			}
			if r.Intn(3) == 0 {
				odd.W[k] = uint64(r.Intn(40)) * 4
			}
		}
		w := uint64(r.Intn(170))
		Take(odd, w)
		Items(odd, w)
		Equal(odd, w, uint64(r.Intn(170)))
		Hash(odd, w)
		Append(&odd, w, none)
		Pop(&odd, w)
		SetAt(&odd, w, 0, w)
		List(&odd, []uint64{w})
		Tuple(&odd, []uint64{w})
		Put(&odd, s("abc"))
	}
}
