package arena

import (
	"math"
	"math/rand"
	"reflect"
	"testing"

	"scree/api"
	"scree/word"
)

func copied(m api.Mem) api.Mem { return api.Mem{W: append([]uint64{}, m.W...), Top: m.Top} }

// P13.1: memories.
func TestNew(t *testing.T) {
	for _, n := range []int{1, 0, -1, 1048577, math.MaxInt, math.MinInt} {
		if m, e := New(n); m.W != nil || m.Top != 0 || e != api.ErrArg {
			t.Errorf("New(%d): %d", n, e)
		}
	}
	for _, n := range []int{2, 10, 1048576} {
		m, e := New(n)
		if len(m.W) != n || m.Top != 1 || e != api.OK || Check(m) != api.OK {
			t.Errorf("New(%d): %d", n, e)
		}
	}
}

// sample is example 1: a memory with two objects.
func sample(t *testing.T) api.Mem {
	t.Helper()
	m, _ := New(10)
	a, e1 := Alloc(&m, 5, 2, 1)
	_, e2 := Alloc(&m, 1, 3, 0)
	top := m.Top
	b, e3 := Alloc(&m, 1, 2, 0)
	if a != 1 || e1 != api.OK || e2 != api.ErrFull || top != 6 || b != 6 || e3 != api.OK {
		t.Fatal(a, e1, e2, top, b, e3)
	}
	return m
}

// P13.2, P13.3: example 1 and 2.
func TestExamples(t *testing.T) {
	m := sample(t)
	if !reflect.DeepEqual(m, api.Mem{W: []uint64{0, 21474836997, 0, 2, 2, 0, 1 + 512 + 4<<32, 0, 2, 2}, Top: 10}) {
		t.Fatal(m)
	}
	if w, e := Get(m, 1, 0); w != 2 || e != api.OK {
		t.Error(w, e)
	}
	for _, c := range []struct {
		a, i int
		w    uint64
		err  api.Errno
		form api.Errno
	}{{1, 0, 24, 0, 0}, {1, 0, 8, 0, api.ErrForm}, {1, 0, 3, api.ErrType, 0}, {1, 2, 3, 0, 0}, {1, 3, 2, api.ErrArg, 0}, {1, -1, 2, api.ErrArg, 0}, {2, 0, 2, api.ErrArg, 0}, {6, 1, 0, api.ErrType, 0}, {6, 1, 4, 0, 0}, {6, 2, 2, api.ErrArg, 0}, {0, 0, 2, api.ErrArg, 0}, {10, 0, 2, api.ErrArg, 0}, {math.MaxInt, 0, 2, api.ErrArg, 0}, {-5, 0, 2, api.ErrArg, 0}, {1, math.MaxInt, 2, api.ErrArg, 0}, {1, 3, 3, api.ErrArg, 0}} {
		n := copied(m)
		if e := Set(&n, c.a, c.i, c.w); e != c.err {
			t.Errorf("Set(%d, %d, %d): %d", c.a, c.i, c.w, e)
		}
		if e := Check(n); e != c.form {
			t.Errorf("Set(%d, %d, %d): Check %d", c.a, c.i, c.w, e)
		}
		got, e := Get(n, c.a, c.i)
		if c.err == api.OK && (got != c.w || e != api.OK) {
			t.Errorf("Get: %d %d", got, e)
		}
		if c.err != api.OK && !reflect.DeepEqual(n, m) {
			t.Error("a refused call changed something")
		}
		if c.err == api.ErrArg && (got != 0 || e != api.ErrArg) {
			t.Errorf("Get(%d, %d): %d %d", c.a, c.i, got, e)
		}
	}
	if Set(nil, 1, 0, 2) != api.ErrArg {
		t.Error("nil")
	}
	if !reflect.DeepEqual(Objects(m), []int{1, 6}) {
		t.Error(Objects(m))
	}
}

// P13.3: kinds and sizes, also of memories that aren't in form.
func TestSeems(t *testing.T) {
	m := sample(t)
	if k, e := Kind(m, 1); k != 5 || e != api.OK {
		t.Error(k, e)
	}
	if a, b, e := Size(m, 1); a != 2 || b != 1 || e != api.OK {
		t.Error(a, b, e)
	}
	m.W[1] |= 1 << 63
	m.W[2] = 99
	if k, e := Kind(m, 1); k != 5 || e != api.OK {
		t.Error("mark and forward matter")
	}
	spoil := map[string]func(m *api.Mem) int{
		"kind 0": func(m *api.Mem) int { m.W[1] &^= 255; return 1 }, "size too small": func(m *api.Mem) int { m.W[1] = 1 + 2<<8 + 3<<32; return 1 }, "size beyond Top": func(m *api.Mem) int { m.W[1] = 1 + 10<<32; return 1 }, "Top beyond the end": func(m *api.Mem) int { m.Top = 11; return 1 }, "a beyond Top": func(m *api.Mem) int { m.Top = 2; return 1 }, "the last word": func(m *api.Mem) int { m.W[9] = 1 + 2<<32; return 9 },
		"no words": func(m *api.Mem) int { m.W = nil; return 1 }, "a below": func(m *api.Mem) int { return 0 }, "Top below": func(m *api.Mem) int { m.Top = -9; return 1 }, "Top far below": func(m *api.Mem) int { m.Top = math.MinInt; return 1 }, "Top far above": func(m *api.Mem) int { m.Top = math.MaxInt; return 1 },
	}
	for what, f := range spoil {
		n := copied(sample(t))
		a := f(&n)
		_, e1 := Kind(n, a)
		_, _, e2 := Size(n, a)
		_, e3 := Get(n, a, 0)
		if e1 != api.ErrArg || e2 != api.ErrArg || e3 != api.ErrArg {
			t.Errorf("%s: %d %d %d", what, e1, e2, e3)
		}
	}
	inside := sample(t)
	inside.W[3] = 7 + 4<<32
	if k, e := Kind(inside, 3); k != 7 || e != api.OK {
		t.Error("an object seems to lie within another")
	}
}

// P13.1, P13.4: what isn't in form.
func TestCheck(t *testing.T) {
	for what, f := range map[string]func(m *api.Mem){
		"W[0]": func(m *api.Mem) { m.W[0] = 1 }, "behind Top": func(m *api.Mem) { m.Top = 6 }, "a gap": func(m *api.Mem) { m.W[1] = 5 + 2<<8 + 4<<32 }, "marked": func(m *api.Mem) { m.W[1] |= 1 << 63 }, "other bits": func(m *api.Mem) { m.W[1] |= 1 << 56 }, "forward": func(m *api.Mem) { m.W[2] = 4 }, "nothing": func(m *api.Mem) { m.W[3] = 3 }, "no object's address": func(m *api.Mem) { m.W[3] = 8 },
		"address beyond Top": func(m *api.Mem) { m.W[3] = 40 }, "Top 0": func(m *api.Mem) { m.Top = 0 }, "Top beyond": func(m *api.Mem) { m.Top = 11 }, "one word": func(m *api.Mem) { m.W = m.W[:1]; m.Top = 1 }, "no word": func(m *api.Mem) { m.W = nil }, "kind 0": func(m *api.Mem) { m.W[6]-- }, "cut": func(m *api.Mem) { m.Top = 8; m.W[8], m.W[9] = 0, 0 }, "too many words": func(m *api.Mem) { m.W = append(m.W, make([]uint64, 1<<20)...) },
	} {
		m := sample(t)
		f(&m)
		if Check(m) != api.ErrForm || Objects(m) != nil {
			t.Errorf("%s: in form", what)
		}
	}
	m, _ := New(7)
	if Check(m) != api.OK || len(Objects(m)) != 0 {
		t.Error("an empty memory")
	}
}

// P13.2: the bounds.
func TestAlloc(t *testing.T) {
	m, _ := New(100)
	for _, c := range [][3]int{{0, 1, 1}, {256, 1, 1}, {-1, 0, 0}, {1, -1, 0}, {1, 0, -1}, {1, 1048577, 0}, {1, 0, 1048577}, {1, math.MaxInt, math.MaxInt}} {
		if a, e := Alloc(&m, c[0], c[1], c[2]); a != 0 || e != api.ErrArg {
			t.Errorf("%v: %d %d", c, a, e)
		}
	}
	for _, c := range [][2]int{{98, 0}, {0, 98}, {1048576, 1048576}, {50, 48}} {
		if a, e := Alloc(&m, 1, c[0], c[1]); a != 0 || e != api.ErrFull {
			t.Errorf("%v: %d %d", c, a, e)
		}
	}
	if _, e := Alloc(nil, 1, 0, 0); e != api.ErrArg {
		t.Error("nil")
	}
	for _, top := range []int{0, -1, 101} {
		if _, e := Alloc(&api.Mem{W: make([]uint64, 100), Top: top}, 1, 0, 0); e != api.ErrArg {
			t.Errorf("Top %d: %d", top, e)
		}
	}
	if m.Top != 1 || Check(m) != api.OK {
		t.Error("refused calls changed something")
	}
	dirty := api.Mem{W: []uint64{7, 7, 7, 7, 7, 7}, Top: 1}
	if a, e := Alloc(&dirty, 255, 1, 1); a != 1 || e != api.OK || !reflect.DeepEqual(dirty.W, []uint64{7, 255 + 256 + 4<<32, 0, 2, 0, 7}) {
		t.Error(a, e, dirty)
	}
	if a, e := Alloc(&m, 1, 49, 48); a != 1 || e != api.OK || m.Top != 100 {
		t.Error("a full memory", a, e)
	}
	if _, e := Alloc(&m, 1, 0, 0); e != api.ErrFull {
		t.Error("beyond it")
	}
}

// P13.5: a memory in form stays in form.
func TestStaysInForm(t *testing.T) {
	r := rand.New(rand.NewSource(1))
	for range 300 {
		m, _ := New(200)
		for range 60 {
			as := Objects(m)
			if len(as) == 0 || r.Intn(3) == 0 {
				Alloc(&m, 1+r.Intn(255), r.Intn(5), r.Intn(4))
				continue
			}
			w, _ := word.Addr(as[r.Intn(len(as))])
			if r.Intn(3) == 0 {
				w, _ = word.Small(r.Intn(100) - 50)
			}
			a := as[r.Intn(len(as))]
			tagged, raw, _ := Size(m, a)
			Set(&m, a, r.Intn(tagged+raw+2)-1, w)
		}
		if Check(m) != api.OK {
			t.Fatal("not in form")
		}
	}
}
