package mro

import (
	"math"
	"math/rand"
	"reflect"
	"testing"

	"scree/api"
)

// P19.1, P19.2: by example.
func TestOrder(t *testing.T) {
	chain := make([][]int, 200)
	want := []int{0}
	for c := 1; c < 200; c++ {
		chain[c] = []int{c - 1}
		want = append([]int{c}, want...)
	}
	for n, x := range []struct {
		bases [][]int
		c     int
		want  []int
		err   api.Errno
	}{
		{[][]int{{}, {0}, {0}, {1, 2}}, 3, []int{3, 1, 2, 0}, 0}, {[][]int{nil, {0}, {0, 1}}, 2, nil, api.ErrOrder}, {[][]int{nil, {0}, {1, 0}}, 2, []int{2, 1, 0}, 0}, {[][]int{{0}}, 0, nil, api.ErrForm}, {[][]int{{0}, {1}}, 0, nil, api.ErrForm}, {[][]int{nil, {0, 0}}, 0, nil, api.ErrForm}, {nil, 0, nil, api.ErrArg}, {[][]int{nil}, 1, nil, api.ErrArg}, {[][]int{nil}, -1, nil, api.ErrArg}, {[][]int{nil, {-1}}, 0, nil, api.ErrForm}, {[][]int{nil, {1}}, 0, nil, api.ErrForm}, {[][]int{{5}}, 1, nil, api.ErrArg},
		{[][]int{nil, {0}, {0, 1}, {2}}, 3, nil, api.ErrOrder}, {[][]int{nil, {0}, {0, 1}, {0}}, 3, []int{3, 0}, 0}, {[][]int{nil}, 0, []int{0}, 0}, {chain, 199, want, 0}, {append(chain[:200:200], []int{5}), 200, nil, api.ErrLong}, {append(chain[:200:200], []int{900}), 200, nil, api.ErrLong}, {append(chain[:200:200], []int{5}), 201, nil, api.ErrArg},
		{[][]int{nil, nil, {0, 1}, {1, 0}, {2, 3}}, 4, nil, api.ErrOrder}, {[][]int{nil, {0}, {0}, {0}, {1, 2}, {2, 3}, {1, 3}, {4, 5, 6}}, 7, []int{7, 4, 5, 6, 1, 2, 3, 0}, 0}, {[][]int{nil, {0}, {0}, {0}, {1, 2}, {2, 3}, {1, 3}, {4, 6, 5}}, 7, []int{7, 4, 6, 1, 5, 2, 3, 0}, 0},
	} {
		got, e := Order(x.bases, x.c)
		if !reflect.DeepEqual(got, x.want) || e != x.err {
			t.Errorf("case %d: %v %d, want %v %d", n, got, e, x.want, x.err)
		}
	}
	if !Below([]int{3, 1}, 1) || Below([]int{3, 1}, 2) || Below(nil, 0) || Below([]int{3}, math.MinInt) {
		t.Error("Below")
	}
}

func place(order []int, c int) int {
	for i, x := range order {
		if x == c {
			return i
		}
	}
	return -1
}

// byRule is the words' own rule.
func byRule(bases [][]int, c int) []int {
	lists := [][]int{}
	for _, b := range bases[c] {
		l := byRule(bases, b)
		if l == nil {
			return nil
		}
		lists = append(lists, append([]int{}, l...))
	}
	lists = append(lists, append([]int{}, bases[c]...))
	out := []int{c}
	for {
		found, left := -1, false
		for _, l := range lists {
			if len(l) == 0 {
				continue
			}
			left = true
			free := true
			for _, o := range lists {
				free = free && place(o, l[0]) <= 0
			}
			if free {
				found = l[0]
				break
			}
		}
		if !left {
			return out
		}
		if found < 0 {
			return nil
		}
		out = append(out, found)
		for i, l := range lists {
			if len(l) > 0 && l[0] == found {
				lists[i] = l[1:]
			}
		}
	}
}

// P19.3, P19.4: what follows, on many.
func TestFollows(t *testing.T) {
	r := rand.New(rand.NewSource(1))
	orders := 0
	for range 5000 {
		n := 1 + r.Intn(8)
		bases := make([][]int, n)
		for c := range bases {
			for _, b := range r.Perm(c) {
				if r.Intn(3) == 0 {
					bases[c] = append(bases[c], b)
				}
			}
		}
		keep := make([][]int, n)
		for c := range bases {
			keep[c] = append([]int(nil), bases[c]...)
		}
		c := r.Intn(n)
		got, e := Order(bases, c)
		want := byRule(bases, c)
		if (want == nil) != (e == api.ErrOrder) || e == api.OK && !reflect.DeepEqual(got, want) {
			t.Fatalf("%v of %d: %v %d, want %v", bases, c, got, e, want)
		}
		if !reflect.DeepEqual(bases, keep) {
			t.Fatal("changed")
		}
		if e != api.OK {
			continue
		}
		orders++
		for _, x := range got {
			for i, b := range bases[x] {
				if place(got, b) < place(got, x) || i > 0 && place(got, b) < place(got, bases[x][i-1]) {
					t.Fatal("an order that isn't kept")
				}
			}
		}
		got[0] = 99
		_ = append(got, 1)
		if again, _ := Order(bases, c); again[0] != c {
			t.Fatal("memory is shared")
		}
	}
	if orders < 1000 {
		t.Error("too few orders")
	}
}
