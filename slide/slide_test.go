package slide

import (
	"math/rand"
	"reflect"
	"testing"

	"scree/api"
	"scree/arena"
	"scree/word"
)

func copied(m api.Mem) api.Mem { return api.Mem{W: append([]uint64{}, m.W...), Top: m.Top} }

// sample is example 1.
func sample(t *testing.T) api.Mem {
	t.Helper()
	m, _ := arena.New(20)
	arena.Alloc(&m, 5, 1, 0)
	arena.Alloc(&m, 1, 0, 1)
	arena.Alloc(&m, 1, 0, 1)
	arena.Set(&m, 1, 0, 7*4)
	arena.Set(&m, 7, 0, 99)
	if m.Top != 10 {
		t.Fatal(m.Top)
	}
	return m
}

func TestExamples(t *testing.T) {
	m := sample(t)
	roots := []uint64{4, 2}
	got, e := Collect(&m, roots)
	want := make([]uint64, 20)
	copy(want, []uint64{0, 5 + 256 + 3<<32, 0, 16, 1 + 3<<32, 0, 99})
	if !reflect.DeepEqual(got, []uint64{4, 2}) || e != api.OK || m.Top != 7 || !reflect.DeepEqual(m.W, want) || !reflect.DeepEqual(roots, []uint64{4, 2}) {
		t.Error(got, e, m)
	}
	if got, e := Collect(&m, nil); len(got) != 0 || e != api.OK || m.Top != 1 || !reflect.DeepEqual(m.W, make([]uint64, 20)) {
		t.Error(got, e, m)
	}
}

// P14.1, P14.2: what isn't right changes nothing.
func TestRefused(t *testing.T) {
	for what, f := range map[string]func(m *api.Mem) []uint64{
		"no object": func(m *api.Mem) []uint64 { return []uint64{4, 8} }, "beyond Top": func(m *api.Mem) []uint64 { return []uint64{40} }, "nothing": func(m *api.Mem) []uint64 { return []uint64{4, 3} }, "0": func(m *api.Mem) []uint64 { return []uint64{0} }, "far": func(m *api.Mem) []uint64 { return []uint64{4 << 30} },
		"marked": func(m *api.Mem) []uint64 { m.W[4] |= 1 << 63; return nil }, "forward": func(m *api.Mem) []uint64 { m.W[5] = 1; return nil }, "dirty": func(m *api.Mem) []uint64 { m.W[19] = 1; return nil }, "Top": func(m *api.Mem) []uint64 { m.Top = 21; return nil }, "a wrong address": func(m *api.Mem) []uint64 { m.W[3] = 8; return nil },
	} {
		m := sample(t)
		roots := f(&m)
		keep := copied(m)
		got, e := Collect(&m, roots)
		if got != nil || e != api.ErrForm || !reflect.DeepEqual(m, keep) {
			t.Errorf("%s: %v %d", what, got, e)
		}
		if as, e := Reach(m, roots); as != nil || e != api.ErrForm {
			t.Errorf("%s: Reach %v %d", what, as, e)
		}
	}
	if got, e := Collect(nil, nil); got != nil || e != api.ErrForm {
		t.Error("nil")
	}
}

// random is a memory in form, with roots that are right.
func random(r *rand.Rand) (api.Mem, []uint64) {
	m, _ := arena.New(400)
	as := []int{}
	for range 1 + r.Intn(40) {
		if a, e := arena.Alloc(&m, 1+r.Intn(20), r.Intn(5), r.Intn(3)); e == api.OK {
			as = append(as, a)
		}
	}
	anyWord := func() uint64 {
		var w uint64
		switch r.Intn(3) {
		case 0:
			w, _ = word.Small(r.Intn(99) - 50)
		case 1:
			w, _ = word.Const(r.Intn(4))
		default:
			w, _ = word.Addr(as[r.Intn(len(as))])
		}
		return w
	}
	for _, a := range as {
		tagged, raw, _ := arena.Size(m, a)
		for i := range tagged + raw {
			w := anyWord()
			if i >= tagged {
				w = r.Uint64() >> r.Intn(64)
			}
			arena.Set(&m, a, i, w)
		}
	}
	roots := []uint64{}
	for range r.Intn(5) {
		roots = append(roots, anyWord())
	}
	return m, roots
}

// reached goes through all from the roots, the plain way.
func reached(m api.Mem, roots []uint64) []int {
	seen := map[int]bool{}
	var walk func(w uint64)
	walk = func(w uint64) {
		a, e := word.At(w)
		if e != api.OK || seen[a] {
			return
		}
		seen[a] = true
		tagged, _, _ := arena.Size(m, a)
		for i := range tagged {
			x, _ := arena.Get(m, a, i)
			walk(x)
		}
	}
	for _, w := range roots {
		walk(w)
	}
	var out []int
	for _, a := range arena.Objects(m) {
		if seen[a] {
			out = append(out, a)
		}
	}
	return out
}

// P14.1 to P14.3, held against a copy that is built object by object.
func TestRandom(t *testing.T) {
	r := rand.New(rand.NewSource(1))
	for range 3000 {
		m, roots := random(r)
		keep := copied(m)
		as, e := Reach(m, roots)
		if e != api.OK || !reflect.DeepEqual(as, reached(m, roots)) || !reflect.DeepEqual(m, keep) {
			t.Fatal("Reach", as, e)
		}
		to := map[int]int{}
		free := 1
		for _, a := range as {
			to[a] = free
			tagged, raw, _ := arena.Size(m, a)
			free += 2 + tagged + raw
		}
		turned := func(w uint64) uint64 {
			if a, e := word.At(w); e == api.OK {
				return uint64(to[a]) << 2
			}
			return w
		}
		want := api.Mem{W: make([]uint64, len(m.W)), Top: free}
		for _, a := range as {
			tagged, raw, _ := arena.Size(m, a)
			copy(want.W[to[a]:], m.W[a:a+2+tagged+raw])
			for i := range tagged {
				want.W[to[a]+2+i] = turned(m.W[a+2+i])
			}
		}
		wantRoots := []uint64{}
		for _, w := range roots {
			wantRoots = append(wantRoots, turned(w))
		}
		got, e := Collect(&m, roots)
		if e != api.OK || !reflect.DeepEqual(got, wantRoots) || !reflect.DeepEqual(m, want) {
			t.Fatalf("Collect of %v: %v %d\n%v\n%v", roots, got, e, m, want)
		}
		if arena.Check(m) != api.OK {
			t.Fatal("not in form")
		}
		again, _ := Collect(&m, got)
		if !reflect.DeepEqual(again, got) || !reflect.DeepEqual(m, want) {
			t.Fatal("a second collection changed something")
		}
	}
}

// P14.4: a long chain needs no stack and no list of its own.
func TestChain(t *testing.T) {
	m, _ := arena.New(1 << 20)
	last, _ := word.Const(word.None)
	for {
		a, e := arena.Alloc(&m, 5, 1, 0)
		if e != api.OK {
			break
		}
		arena.Set(&m, a, 0, last)
		last, _ = word.Addr(a)
	}
	top := m.Top
	roots := []uint64{last}
	bytes := testing.AllocsPerRun(1, func() {
		if _, e := Collect(&m, roots); e != api.OK || m.Top != top {
			t.Fatal(e, m.Top)
		}
	})
	if bytes > 20 {
		t.Errorf("%v pieces of memory were taken", bytes)
	}
}

// P14.3: a collection, and then one with fewer roots, is one with these alone; the picture stays.
func TestFewerRoots(t *testing.T) {
	r := rand.New(rand.NewSource(2))
	for range 1000 {
		m, roots := random(r)
		both, once := copied(m), copied(m)
		n := r.Intn(len(roots) + 1)
		all, e := Collect(&both, roots)
		if e != api.OK {
			t.Fatal(e)
		}
		after, _ := Collect(&both, all[:n])
		alone, _ := Collect(&once, roots[:n])
		if !reflect.DeepEqual(after, alone) || !reflect.DeepEqual(both, once) {
			t.Fatal("two collections aren't one")
		}
		before, _ := Reach(m, roots[:n])
		now, _ := Reach(once, alone)
		if len(before) != len(now) {
			t.Fatal("not as many")
		}
		for i := range now {
			k1, _ := arena.Kind(m, before[i])
			k2, _ := arena.Kind(once, now[i])
			if k1 != k2 {
				t.Fatal("other kinds")
			}
		}
	}
}
