package whole

import (
	"math"
	"math/big"
	"math/rand"
	"reflect"
	"strings"
	"testing"

	"scree/api"
)

func fromGo(b *big.Int) api.Big {
	x, e := Parse(b.String())
	if e != api.OK {
		panic("too great")
	}
	return x
}

func toGo(x api.Big) *big.Int {
	b, ok := new(big.Int).SetString(Text(x), 10)
	if !ok {
		panic("no text: " + Text(x))
	}
	return b
}

func tooGreat(b *big.Int) bool { return len(strings.TrimPrefix(b.String(), "-")) > api.MaxDigits }

func parsed(t *testing.T, s string) api.Big {
	t.Helper()
	x, e := Parse(s)
	if e != api.OK {
		t.Fatalf("Parse(%q): %d", s, e)
	}
	return x
}

var bad = []api.Big{{Neg: true}, {Limbs: []uint64{0}}, {Limbs: []uint64{base}}, {Limbs: []uint64{1, 0}}, {Limbs: append(make([]uint64, 30), 1)}, {Neg: true, Limbs: []uint64{base, 1}}}

// P2.1.
func TestGoodOfInt(t *testing.T) {
	for _, x := range bad {
		if Good(x) {
			t.Errorf("%v is in form", x)
		}
		if n, e := Int(x); n != 0 || e != api.ErrForm {
			t.Errorf("Int(%v): %d %d", x, n, e)
		}
	}
	if !Good(api.Big{}) || !Good(api.Big{Limbs: []uint64{}}) || !Good(api.Big{Limbs: append(make([]uint64, 29), base-1)}) {
		t.Error("what is in form isn't")
	}
	for _, n := range []int{0, 1, -1, -5, base - 1, base, -base, base + 1, math.MaxInt, math.MinInt, math.MinInt + 1, 10*base - 1<<63 + math.MaxInt - base*10 + 1} {
		x := Of(n)
		if !Good(x) || Text(x) != big.NewInt(int64(n)).String() {
			t.Errorf("Of(%d) = %v", n, x)
		}
		if got, e := Int(x); got != n || e != api.OK {
			t.Errorf("Int(Of(%d)) = %d, %d", n, got, e)
		}
	}
	if x := Of(-5); !reflect.DeepEqual(x, api.Big{Neg: true, Limbs: []uint64{5}}) {
		t.Errorf("Of(-5) = %v", x)
	}
	if x := Of(base); !reflect.DeepEqual(x, api.Big{Limbs: []uint64{0, 1}}) {
		t.Errorf("Of(10^18) = %v", x)
	}
	for _, s := range []string{"9223372036854775808", "-9223372036854775809", "18446744073709551616", "1" + strings.Repeat("0", 40), "99000000000000000000", "27670116110564327424"} {
		if n, e := Int(parsed(t, s)); n != 0 || e != api.ErrRange {
			t.Errorf("Int(%s) = %d, %d", s, n, e)
		}
	}
}

// P2.2.
func TestParseText(t *testing.T) {
	for _, s := range []string{"", "-", "+1", "1 ", " 1", "--1", "1-", "1_0", "0x1", "\u0661", "1.", "1" + strings.Repeat("0", 540) + "x"} {
		if x, e := Parse(s); e != api.ErrText || x.Limbs != nil {
			t.Errorf("Parse(%q): %v %d", s, x, e)
		}
	}
	for in, want := range map[string]string{"-007": "-7", "-0": "0", "0": "0", "000": "0", strings.Repeat("0", 541): "0", "12345678901234567890": "12345678901234567890", "1000000000000000000": "1000000000000000000", "-1000000000000000001": "-1000000000000000001"} {
		if x, e := Parse(in); e != api.OK || Text(x) != want || !Good(x) {
			t.Errorf("Parse(%q): %v %d", in, x, e)
		}
	}
	for _, s := range []string{"1" + strings.Repeat("0", 540), "-0" + strings.Repeat("9", 541)} {
		if _, e := Parse(s); e != api.ErrLong {
			t.Errorf("Parse of %d digits: %d", len(s), e)
		}
	}
	most := "-" + strings.Repeat("9", 540)
	if Text(parsed(t, most)) != most || Text(parsed(t, "00"+most[1:])) != most[1:] {
		t.Error("540 digits")
	}
	for _, x := range bad {
		if Text(x) != "" {
			t.Errorf("Text(%v)", x)
		}
	}
}

// P2.3.
func TestSigns(t *testing.T) {
	row := []string{"-" + strings.Repeat("9", 540), "-1000000000000000000", "-2", "-1", "0", "1", "2", "999999999999999999", "1000000000000000000", "1000000000000000001", strings.Repeat("9", 540)}
	for i, a := range row {
		for j, b := range row {
			want := 0
			if i < j {
				want = -1
			} else if i > j {
				want = 1
			}
			if Cmp(parsed(t, a), parsed(t, b)) != want {
				t.Errorf("Cmp(%s, %s)", a, b)
			}
		}
		x := parsed(t, a)
		if Sign(x) != Cmp(x, api.Big{}) || Cmp(Neg(x), api.Big{}) != -Sign(x) || Cmp(Neg(Neg(x)), x) != 0 || !Good(Neg(x)) {
			t.Errorf("signs of %s", a)
		}
	}
	for _, x := range bad {
		if Sign(x) != 0 || Cmp(x, Of(1)) != 0 || Cmp(Of(-1), x) != 0 || !reflect.DeepEqual(Neg(x), api.Big{}) {
			t.Errorf("signs of %v", x)
		}
	}
}

func random(r *rand.Rand) *big.Int {
	n := r.Intn(540) + 1
	if r.Intn(3) == 0 {
		n = r.Intn(40) + 1
	}
	s := make([]byte, n)
	for i := range s {
		s[i] = byte('0' + r.Intn(10))
		if r.Intn(4) == 0 {
			s[i] = "09"[r.Intn(2)]
		}
	}
	if r.Intn(5) == 0 {
		for i := range s {
			s[i] = "09"[r.Intn(2)]
		}
	}
	b, _ := new(big.Int).SetString(string(s), 10)
	if r.Intn(2) == 0 {
		b.Neg(b)
	}
	return b
}

func answered(t *testing.T, what string, got api.Big, e api.Errno, want *big.Int) {
	t.Helper()
	if tooGreat(want) {
		if e != api.ErrRange || got.Neg || got.Limbs != nil {
			t.Fatalf("%s: %v %d, want ErrRange", what, got, e)
		}
		return
	}
	if e != api.OK || !Good(got) || toGo(got).Cmp(want) != 0 {
		t.Fatalf("%s: %v %d, want %s", what, got, e, want)
	}
}

// P2.4, P2.5, P2.7: held against another way of reckoning; arguments stay as they are.
func TestReckoning(t *testing.T) {
	r := rand.New(rand.NewSource(1))
	for range 20000 {
		a, b := random(r), random(r)
		x, y := fromGo(a), fromGo(b)
		keepX, keepY := copied(x.Neg, x.Limbs), copied(y.Neg, y.Limbs)
		s, e := Add(x, y)
		answered(t, "Add", s, e, new(big.Int).Add(a, b))
		s, e = Sub(x, y)
		answered(t, "Sub", s, e, new(big.Int).Sub(a, b))
		s, e = Mul(x, y)
		answered(t, "Mul", s, e, new(big.Int).Mul(a, b))
		q, rest, e := DivMod(x, y)
		if b.Sign() == 0 {
			if e != api.ErrZero || q.Limbs != nil || rest.Limbs != nil {
				t.Fatalf("DivMod by 0: %v %v %d", q, rest, e)
			}
		} else {
			gq, gr := new(big.Int).DivMod(a, b, new(big.Int))
			if gr.Sign() != 0 && b.Sign() < 0 {
				gq.Sub(gq, big.NewInt(1))
				gr.Add(gr, b)
			}
			answered(t, "quotient", q, e, gq)
			answered(t, "rest", rest, e, gr)
		}
		if !reflect.DeepEqual(x, keepX) || !reflect.DeepEqual(y, keepY) {
			t.Fatal("an argument was changed")
		}
	}
}

func TestForms(t *testing.T) {
	for _, x := range bad {
		for _, y := range []api.Big{Of(0), Of(-1), x} {
			_, e1 := Add(x, y)
			_, e2 := Sub(y, x)
			_, e3 := Mul(x, y)
			_, _, e4 := DivMod(x, y)
			_, _, e5 := DivMod(y, x)
			_, e6 := Pow(x, y)
			_, e7 := Pow(y, x)
			for i, e := range []api.Errno{e1, e2, e3, e4, e5, e6, e7} {
				if e != api.ErrForm {
					t.Errorf("call %d of %v: %d", i, x, e)
				}
			}
		}
	}
}

// P2.5: the signs, by example.
func TestDivModSigns(t *testing.T) {
	for _, c := range [][4]int{{7, 2, 3, 1}, {-7, 2, -4, 1}, {7, -2, -4, -1}, {-7, -2, 3, -1}, {0, 5, 0, 0}, {6, -3, -2, 0}, {-1, base, -1, base - 1}} {
		q, r, e := DivMod(Of(c[0]), Of(c[1]))
		if e != api.OK || Cmp(q, Of(c[2])) != 0 || Cmp(r, Of(c[3])) != 0 || !Good(q) || !Good(r) {
			t.Errorf("DivMod(%d, %d): %v %v %d", c[0], c[1], q, r, e)
		}
	}
	if _, _, e := DivMod(Of(1), Of(0)); e != api.ErrZero {
		t.Errorf("DivMod(1, 0): %d", e)
	}
}

// P2.6.
func TestPow(t *testing.T) {
	huge := parsed(t, "1"+strings.Repeat("0", 30))
	odd, _ := Add(huge, Of(1))
	for _, c := range []struct {
		x, y api.Big
		want string
		err  api.Errno
	}{
		{Of(2), Of(10), "1024", 0}, {Of(0), Of(0), "1", 0}, {Of(0), huge, "0", 0}, {Of(1), huge, "1", 0}, {Of(-1), huge, "1", 0}, {Of(-1), odd, "-1", 0},
		{Of(2), Of(-1), "", api.ErrArg}, {Of(0), Of(-1), "", api.ErrArg}, {Of(10), Of(540), "", api.ErrRange}, {Of(10), Of(539), "1" + strings.Repeat("0", 539), 0},
		{Of(2), huge, "", api.ErrRange}, {Of(-2), odd, "", api.ErrRange}, {Of(-10), Of(3), "-1000", 0}, {huge, Of(0), "1", 0}, {huge, Of(1), "1" + strings.Repeat("0", 30), 0},
		{Of(2), Of(1794), "", api.ErrRange}, {Of(2), Of(1793), new(big.Int).Exp(big.NewInt(2), big.NewInt(1793), nil).String(), 0},
		{Of(-3), Of(1131), new(big.Int).Exp(big.NewInt(-3), big.NewInt(1131), nil).String(), 0}, {Of(-3), Of(1132), "", api.ErrRange},
	} {
		got, e := Pow(c.x, c.y)
		if e != c.err || e == api.OK && Text(got) != c.want || e != api.OK && got.Limbs != nil {
			t.Errorf("Pow(%s, %s): %v %d", Text(c.x), Text(c.y), got, e)
		}
	}
	for x := -12; x <= 12; x++ {
		for y := range 60 {
			got, e := Pow(Of(x), Of(y))
			answered(t, "Pow", got, e, new(big.Int).Exp(big.NewInt(int64(x)), big.NewInt(int64(y)), nil))
		}
	}
}

// P2.4: the edge.
func TestEdge(t *testing.T) {
	most := parsed(t, strings.Repeat("9", 540))
	if _, e := Add(most, Of(1)); e != api.ErrRange {
		t.Errorf("Add: %d", e)
	}
	if _, e := Sub(Neg(most), Of(1)); e != api.ErrRange {
		t.Errorf("Sub: %d", e)
	}
	if x, e := Sub(most, Of(1)); e != api.OK || Text(x) != strings.Repeat("9", 539)+"8" {
		t.Errorf("Sub: %v %d", x, e)
	}
}

// P2.7: an answer's list is its own, its spare room too.
func TestNewMemory(t *testing.T) {
	x := Of(7)
	room := append(make([]uint64, 0, 8), 3)
	y := api.Big{Limbs: room}
	zero := Of(0)
	for _, f := range []func() api.Big{
		func() api.Big { z, _ := Add(y, zero); return z },
		func() api.Big { z, _ := Sub(y, zero); return z },
		func() api.Big { z, _ := Pow(y, Of(1)); return z },
		func() api.Big { return Neg(y) },
		func() api.Big { _, z, _ := DivMod(y, x); return z },
	} {
		z := f()
		z.Limbs[0] = 99
		_ = append(z.Limbs, 1)
		if room[0] != 3 || room[:2][1] != 0 {
			t.Fatal("memory is shared")
		}
	}
}
