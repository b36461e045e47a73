package frame

import (
	"math"
	"reflect"
	"testing"

	"scree/api"
	"scree/arena"
	"scree/word"
)

const none, unbound14 = 2, 14

func memory(words int) *api.Mem { m, _ := arena.New(words); return &m }

func copied(m *api.Mem) api.Mem { return api.Mem{W: append([]uint64{}, m.W...), Top: m.Top} }

// P20.1: the layout.
func TestNew(t *testing.T) {
	m := memory(20)
	f, e := New(m, 2)
	if e != api.OK || f != 4 || !reflect.DeepEqual(m.W[:11], []uint64{0, 19 + 256*8 + 10<<32, 0, 2, 2, 1, 2, 1, 2, 14, 14}) {
		t.Fatal(f, e, m.W)
	}
	keep := copied(m)
	for _, regs := range []int{-1, 65537, math.MaxInt, math.MinInt} {
		if w, e := New(m, regs); w != 0 || e != api.ErrArg {
			t.Errorf("New(%d): %d", regs, e)
		}
	}
	if w, e := New(m, 2); w != 0 || e != api.ErrFull {
		t.Error("no room", e)
	}
	if _, e := New(nil, 1); e != api.ErrArg {
		t.Error("nil")
	}
	if !reflect.DeepEqual(copied(m), keep) {
		t.Error("changed")
	}
	if f, e := New(m, 1); e != api.OK || m.Top != 20 {
		t.Error(f, e)
	}
	if _, e := New(memory(1<<17), 65536); e != api.OK {
		t.Error("65536 registers", e)
	}
}

// P20.2, P20.3.
func TestWords(t *testing.T) {
	m := memory(60)
	f, _ := New(m, 3)
	if n, e := Regs(*m, f); n != 3 || e != api.OK {
		t.Error(n, e)
	}
	for k := Fn; k <= Gen; k++ {
		if e := SetField(m, f, k, uint64(4*k+1)); e != api.OK {
			t.Error(e)
		}
	}
	for r := range 3 {
		if e := SetReg(m, f, r, uint64(4*r+101)); e != api.OK {
			t.Error(e)
		}
	}
	for k := Fn; k <= Gen; k++ {
		if w, e := Field(*m, f, k); w != uint64(4*k+1) || e != api.OK {
			t.Error(k, w, e)
		}
	}
	for r := range 3 {
		if w, e := Reg(*m, f, r); w != uint64(4*r+101) || e != api.OK {
			t.Error(r, w, e)
		}
	}
	other, _ := arena.Alloc(m, api.KTuple, 9, 0)
	short, _ := arena.Alloc(m, api.KFrame, 5, 0)
	raw, _ := arena.Alloc(m, api.KFrame, 7, 1)
	tuple, _ := word.Addr(other)
	s, _ := word.Addr(short)
	w, _ := word.Addr(raw)
	keep := copied(m)
	for _, c := range []struct {
		f    uint64
		k    int
		w    uint64
		what string
	}{{f, -1, 2, "below"}, {f, 6, 2, "beyond"}, {f, math.MaxInt, 2, "far"}, {f, math.MinInt, 2, "far below"}, {tuple, 0, 2, "a tuple"}, {s, 0, 2, "a short one"}, {w, 0, 2, "one with raw words"}, {none, 0, 2, "None"}, {3, 0, 2, "nothing"}, {4 * 3, 0, 2, "no object"}, {f, 0, 3, "a word that isn't there"}, {f, 0, 4 * 3, "an address that isn't there"}} {
		e1, e2 := SetField(m, c.f, c.k, c.w), SetReg(m, c.f, c.k, c.w)
		if e1 != api.ErrArg || e2 != api.ErrArg {
			t.Errorf("%s: %d %d", c.what, e1, e2)
		}
		if c.w != 2 {
			continue
		}
		a, e1 := Field(*m, c.f, c.k)
		b, e2 := Reg(*m, c.f, c.k)
		if e1 != api.ErrArg || e2 != api.ErrArg || a != 0 || b != 0 {
			t.Errorf("%s: %d %d", c.what, e1, e2)
		}
		if c.f != f {
			_, e3 := Regs(*m, c.f)
			_, e4 := Chain(*m, c.f)
			if e3 != api.ErrArg || e4 != api.ErrArg || Clear(m, c.f, nil) != api.ErrArg {
				t.Errorf("%s: %d %d", c.what, e3, e4)
			}
		}
	}
	if e := SetReg(m, f, 3, 2); e != api.ErrArg {
		t.Error("register 3", e)
	}
	if SetField(nil, f, 0, 2) != api.ErrArg || SetReg(nil, f, 0, 2) != api.ErrArg || Clear(nil, f, nil) != api.ErrArg {
		t.Error("nil")
	}
	if !reflect.DeepEqual(copied(m), keep) {
		t.Error("refused calls changed something")
	}
	live := []uint64{5}
	if e := Clear(m, f, live); e != api.OK || live[0] != 5 {
		t.Error(e)
	}
	for r, want := range []uint64{101, unbound14, 109} {
		if w, _ := Reg(*m, f, r); w != want {
			t.Error(r, w)
		}
	}
	Clear(m, f, nil)
	if w, _ := Reg(*m, f, 0); w != unbound14 {
		t.Error("a bit that isn't there")
	}
	if w, _ := Field(*m, f, Pc); w != 17 {
		t.Error("a field was cleared")
	}
}

// P20.4.
func TestChain(t *testing.T) {
	m := memory(100)
	a, _ := New(m, 0)
	b, _ := New(m, 1)
	c, _ := New(m, 2)
	SetField(m, a, Back, b)
	SetField(m, b, Back, c)
	got, e := Chain(*m, a)
	if e != api.OK || !reflect.DeepEqual(got, []uint64{a, b, c}) {
		t.Error(got, e)
	}
	SetField(m, c, Back, b)
	if got, e := Chain(*m, a); e != api.OK || !reflect.DeepEqual(got, []uint64{a, b, c}) {
		t.Error("round about", got, e)
	}
	SetField(m, a, Back, a)
	if got, _ := Chain(*m, a); !reflect.DeepEqual(got, []uint64{a}) {
		t.Error("itself", got)
	}
	tu, _ := arena.Alloc(m, api.KTuple, 9, 0)
	w, _ := word.Addr(tu)
	SetField(m, b, Back, w)
	got, _ = Chain(*m, b)
	got[0] = 99
	if again, _ := Chain(*m, b); !reflect.DeepEqual(again, []uint64{b}) {
		t.Error("no frame behind it", again)
	}
}
