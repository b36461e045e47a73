package table

import (
	"math/rand"
	"reflect"
	"strconv"
	"testing"

	"scree/api"
	"scree/arena"
	"scree/object"
	"scree/slide"
	"scree/word"
)

const none, no, yes, unbound = 2, 6, 10, 14

func small(n int) uint64 { w, _ := word.Small(n); return w }

func memory(words int) *api.Mem { m, _ := arena.New(words); return &m }

func text(m *api.Mem, s string) uint64 {
	w, _ := object.Put(m, api.Value{Kind: api.KStr, Text: s})
	return w
}

func item(m *api.Mem, w uint64, k int) uint64 {
	a, _ := word.At(w)
	x, _ := arena.Get(*m, a, k)
	return x
}

func copied(m *api.Mem) api.Mem { return api.Mem{W: append([]uint64{}, m.W...), Top: m.Top} }

// P17.1 to P17.5: the layout, by the chapter's examples.
func TestLayout(t *testing.T) {
	m := memory(2000)
	d, e := New(m, api.KDict)
	if e != api.OK || d != 4 || !reflect.DeepEqual(m.W[:7], []uint64{0, api.KDict + 4<<8 + 6<<32, 0, 1, 1, none, none}) {
		t.Fatal(d, e, m.W[:7])
	}
	if e := Put(m, d, small(1), small(5)); e != api.OK {
		t.Fatal(e)
	}
	index, entries := item(m, d, 3), item(m, d, 2)
	if a, _ := word.At(index); a != 7 || m.W[7] != api.KBlock+10<<32 || m.W[17] != api.KBlock+12<<8+14<<32 || entries != 17*4 {
		t.Fatal("blocks", m.W[:32])
	}
	if item(m, index, 1) != 1 || item(m, entries, 0) != small(1) || item(m, entries, 1) != small(5) || item(m, entries, 2) != small(1) || item(m, d, 0) != small(1) || item(m, d, 1) != small(1) || item(m, entries, 3) != none {
		t.Fatal("the first entry", m.W[:32])
	}
	Put(m, d, yes, small(6))
	if item(m, entries, 0) != small(1) || item(m, entries, 1) != small(6) || item(m, d, 1) != small(1) {
		t.Error("True is equal to 1")
	}
	Put(m, d, small(9), none)
	if item(m, index, 2) != 2 {
		t.Error("the search goes on")
	}
	if ok, e := Drop(m, d, small(1)); !ok || e != api.OK || item(m, entries, 0) != unbound || item(m, entries, 1) != none || item(m, entries, 2) != small(0) || item(m, index, 1) != 1 || item(m, d, 0) != small(1) || item(m, d, 1) != small(2) {
		t.Error("Drop", ok, e)
	}
	if v, ok, e := Find(*m, d, small(9)); v != none || !ok || e != api.OK {
		t.Error("Find of 9", v, ok, e)
	}
	if v, ok, e := Find(*m, d, small(1)); v != 0 || ok || e != api.OK {
		t.Error("Find of 1", v, ok, e)
	}
	Put(m, d, small(-1), none)
	if item(m, index, 7) != 3 {
		t.Error("a hash below 0")
	}
	Put(m, d, small(0), none)
	if item(m, d, 3) != index || item(m, d, 1) != small(4) {
		t.Error("room for four")
	}
	Put(m, d, small(20), small(7))
	if item(m, d, 3) == index || item(m, d, 0) != small(4) || item(m, d, 1) != small(4) {
		t.Error("made anew")
	}
	a, _ := word.At(item(m, d, 3))
	if _, raw, _ := arena.Size(*m, a); raw != 16 {
		t.Error("cap", raw)
	}
	if got, e := Entries(*m, d); e != api.OK || !reflect.DeepEqual(got, []uint64{small(9), none, small(-1), none, small(0), none, small(20), small(7)}) {
		t.Error(got, e)
	}
	five := memory(2000)
	s, _ := New(five, api.KSet)
	for k := range 5 {
		Put(five, s, small(k), yes)
	}
	a, _ = word.At(item(five, s, 3))
	if _, raw, _ := arena.Size(*five, a); raw != 32 {
		t.Error("cap of five keys", raw)
	}
	a, _ = word.At(item(five, s, 2))
	if tagged, _, _ := arena.Size(*five, a); tagged != 48 {
		t.Error("entries of five keys", tagged)
	}
	if got, _ := Entries(*five, s); got[1] != none || len(got) != 10 {
		t.Error("a set's values", got)
	}
	if arena.Check(*m) != api.OK || arena.Check(*five) != api.OK {
		t.Error("not in form")
	}
}

// The errors, and that nothing changes.
func TestErrors(t *testing.T) {
	m := memory(60)
	d, _ := New(m, api.KDict)
	l, _ := object.List(m, nil)
	nan, _ := object.Put(m, api.Value{Kind: api.KFloat, Bits: 0x7ff8000000000000})
	keep := copied(m)
	for _, k := range []int{api.KList, 0, -1, 99} {
		if w, e := New(m, k); w != 0 || e != api.ErrArg {
			t.Errorf("New(%d): %d", k, e)
		}
	}
	for _, c := range []struct {
		t, key uint64
		err    api.Errno
	}{{l, none, api.ErrArg}, {none, none, api.ErrArg}, {3, none, api.ErrArg}, {4 * 3, none, api.ErrArg}, {4 * 9999, none, api.ErrArg}, {d, 3, api.ErrArg}, {d, 4 * 9999, api.ErrArg}, {d, l, api.ErrHash}, {l, l, api.ErrArg}, {d, unbound, api.ErrHash}} {
		_, _, e1 := Find(*m, c.t, c.key)
		e2 := Put(m, c.t, c.key, none)
		_, e3 := Drop(m, c.t, c.key)
		if e1 != c.err || e2 != c.err || e3 != c.err {
			t.Errorf("%v: %d %d %d", c, e1, e2, e3)
		}
	}
	if e := Put(m, d, none, 3); e != api.ErrArg {
		t.Error("a value that isn't there", e)
	}
	if _, e := Len(*m, l); e != api.ErrArg {
		t.Error("Len", e)
	}
	if _, e := Entries(*m, none); e != api.ErrArg {
		t.Error("Entries", e)
	}
	_, e1 := New(nil, api.KDict)
	e2 := Put(nil, d, none, none)
	_, e3 := Drop(nil, d, none)
	if e1 != api.ErrArg || e2 != api.ErrArg || e3 != api.ErrArg {
		t.Error("nil")
	}
	if !reflect.DeepEqual(copied(m), keep) {
		t.Error("refused calls changed something")
	}
	if e := Put(m, d, nan, small(1)); e != api.OK {
		t.Fatal(e)
	}
	if _, ok, e := Find(*m, d, nan); ok || e != api.OK {
		t.Error("NaN was found")
	}
	for k := range 3 {
		Put(m, d, small(k), none)
	}
	keep = copied(m)
	if e := Put(m, d, small(7), none); e != api.ErrFull || !reflect.DeepEqual(copied(m), keep) {
		t.Error("without room", e)
	}
	if e := Put(m, d, small(2), yes); e != api.OK {
		t.Error("a key that is there needs no room", e)
	}
	if _, e := New(memory(6), api.KSet); e != api.ErrFull {
		t.Error("New without room", e)
	}
	deep := memory(4000)
	d, _ = New(deep, api.KDict)
	w := uint64(none)
	for range 41 {
		w, _ = object.Tuple(deep, []uint64{w})
	}
	if e := Put(deep, d, w, none); e != api.ErrDeep {
		t.Error("a deep key", e)
	}
}

// P17.3: at most 20000 keys.
func TestLimit(t *testing.T) {
	m := memory(1 << 20)
	s, _ := New(m, api.KSet)
	for k := range 20000 {
		if e := Put(m, s, small(k), none); e != api.OK {
			t.Fatal(k, e)
		}
	}
	if e := Put(m, s, small(20000), none); e != api.ErrLong {
		t.Error("20001 keys", e)
	}
	if e := Put(m, s, small(7), none); e != api.OK {
		t.Error("a key that is there", e)
	}
	Drop(m, s, small(7))
	if e := Put(m, s, small(20000), none); e != api.OK {
		t.Error("one for another", e)
	}
	if n, e := Len(*m, s); n != 20000 || e != api.OK {
		t.Error(n, e)
	}
	a, _ := word.At(item(m, s, 3))
	if _, raw, _ := arena.Size(*m, a); raw != 131072 {
		t.Error("cap", raw)
	}
}

// P17.6: a map, held against one of another kind; collections between change nothing.
func TestAsMap(t *testing.T) {
	r := rand.New(rand.NewSource(1))
	for range 60 {
		m := memory(30000)
		d, _ := New(m, api.KDict)
		values := map[string]uint64{}
		order := []string{}
		key := func(n int) (uint64, string) {
			switch n % 3 {
			case 0:
				return small(n), strconv.Itoa(n)
			case 1:
				w, _ := object.Put(m, api.Value{Kind: api.KFloat, Bits: 0x4000000000000000 + uint64(n)<<40})
				return w, "f" + strconv.Itoa(n)
			}
			w, _ := object.Tuple(m, []uint64{text(m, "k"), small(n)})
			return w, "t" + strconv.Itoa(n)
		}
		for range 300 {
			w, name := key(r.Intn(60))
			switch r.Intn(5) {
			case 0, 1, 2:
				v := small(r.Intn(1000))
				if e := Put(m, d, w, v); e != api.OK {
					t.Fatal(e)
				}
				if _, ok := values[name]; !ok {
					order = append(order, name)
				}
				values[name] = v
			case 3:
				ok, e := Drop(m, d, w)
				if _, want := values[name]; ok != want || e != api.OK {
					t.Fatal("Drop", ok, e)
				}
				delete(values, name)
				left := []string{}
				for _, x := range order {
					if x != name {
						left = append(left, x)
					}
				}
				order = left
			default:
				roots, e := slide.Collect(m, []uint64{d})
				if e != api.OK {
					t.Fatal(e)
				}
				d = roots[0]
			}
			w, name = key(r.Intn(60))
			v, ok, e := Find(*m, d, w)
			if want, there := values[name]; v != want || ok != there || e != api.OK {
				t.Fatal("Find", v, ok, e)
			}
		}
		got, _ := Entries(*m, d)
		if n, _ := Len(*m, d); n != len(order) || len(got) != 2*n {
			t.Fatal("how many", n, len(got), len(order))
		}
		for k, name := range order {
			if got[2*k+1] != values[name] {
				t.Fatal("the order")
			}
		}
	}
}

// P1: with memories of any words.
func TestAnyMemory(t *testing.T) {
	r := rand.New(rand.NewSource(1))
	for range 5000 {
		m := memory(60)
		New(m, api.KDict+r.Intn(2))
		arena.Alloc(m, api.KBlock, r.Intn(7), r.Intn(9))
		arena.Alloc(m, api.KBlock, r.Intn(7), r.Intn(9))
		for k := 3; k < m.Top; k++ {
			if r.Intn(3) == 0 {
				m.W[k] = uint64(r.Intn(120))
			}
			if r.Intn(9) == 0 {
				m.W[k] = small(r.Intn(1<<60) - 1<<59)
			}
		}
		Find(*m, 4, small(1))
		Put(m, 4, small(r.Intn(9)), none)
		Drop(m, 4, small(1))
		Len(*m, 4)
		Entries(*m, 4)
	}
}
