package word

import (
	"math"
	"testing"

	"scree/api"
)

const limit = 1000000000000000000

// P1.1: the words of addresses, numbers and constants, and what has none.
func TestMakes(t *testing.T) {
	for _, c := range []struct {
		f    func(int) (uint64, api.Errno)
		in   int
		want uint64
		err  api.Errno
	}{
		{Addr, 1, 4, 0}, {Addr, 1048575, 4194300, 0}, {Addr, 0, 0, api.ErrArg}, {Addr, 1048576, 0, api.ErrArg},
		{Addr, -1, 0, api.ErrArg}, {Addr, math.MinInt, 0, api.ErrArg}, {Addr, math.MaxInt, 0, api.ErrArg},
		{Small, 0, 1, 0}, {Small, 5, 21, 0}, {Small, -1, 18446744073709551613, 0},
		{Small, limit - 1, 3999999999999999997, 0}, {Small, limit, 0, api.ErrRange}, {Small, -limit, 0, api.ErrRange},
		{Small, math.MaxInt, 0, api.ErrRange}, {Small, math.MinInt, 0, api.ErrRange},
		{Small, 1 - limit, 14446744073709551621, 0},
		{Const, None, 2, 0}, {Const, False, 6, 0}, {Const, True, 10, 0}, {Const, Unbound, 14, 0},
		{Const, 4, 0, api.ErrArg}, {Const, -1, 0, api.ErrArg},
	} {
		if w, e := c.f(c.in); w != c.want || e != c.err {
			t.Errorf("of %d: %d, %d; want %d, %d", c.in, w, e, c.want, c.err)
		}
	}
}

// P1.2: each kind, and words that stand for nothing.
func TestKind(t *testing.T) {
	for w, k := range map[uint64]int{
		0: Nothing, 3: Nothing, 18: Nothing, 4: Address, 5: Number, 6: Constant, 14: Constant, 1: Number,
		4194300: Address, 4194304: Nothing, 7: Nothing, math.MaxUint64: Nothing, math.MaxUint64 - 2: Number,
		3999999999999999997: Number, 4000000000000000001: Nothing, 14446744073709551621: Number, 14446744073709551617: Nothing,
		1 << 63: Nothing, 1<<63 + 1: Nothing, 1<<63 + 2: Nothing,
	} {
		if Kind(w) != k {
			t.Errorf("Kind(%d) = %d, want %d", w, Kind(w), k)
		}
	}
}

// P1.3, P1.4: what is made is read back as itself, and by no other reader.
func TestReads(t *testing.T) {
	for _, n := range []int{0, 1, -1, 5, limit - 1, 1 - limit, 123456789} {
		w, _ := Small(n)
		if got, e := Num(w); got != n || e != api.OK {
			t.Errorf("Num(Small(%d)) = %d, %d", n, got, e)
		}
		if a, e := At(w); a != 0 || e != api.ErrType {
			t.Errorf("At of a number: %d, %d", a, e)
		}
		if k, e := Which(w); k != 0 || e != api.ErrType {
			t.Errorf("Which of a number: %d, %d", k, e)
		}
	}
	for _, a := range []int{1, 2, 77, 1048575} {
		w, _ := Addr(a)
		if got, e := At(w); got != a || e != api.OK {
			t.Errorf("At(Addr(%d)) = %d, %d", a, got, e)
		}
		if n, e := Num(w); n != 0 || e != api.ErrType {
			t.Errorf("Num of an address: %d, %d", n, e)
		}
	}
	for k := None; k <= Unbound; k++ {
		w, _ := Const(k)
		if got, e := Which(w); got != k || e != api.OK {
			t.Errorf("Which(Const(%d)) = %d, %d", k, got, e)
		}
	}
	for _, w := range []uint64{0, 3, 18, 1 << 63, math.MaxUint64} {
		_, e1 := At(w)
		_, e2 := Num(w)
		_, e3 := Which(w)
		if e1 != api.ErrType || e2 != api.ErrType || e3 != api.ErrType {
			t.Errorf("%d stands for something: %d %d %d", w, e1, e2, e3)
		}
	}
}
