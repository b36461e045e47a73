package real

import (
	"math"
	"math/big"
	"math/rand"
	"strconv"
	"strings"
	"testing"

	"scree/api"
	"scree/whole"
)

func pat(f float64) uint64 { return math.Float64bits(f) }

var edges = []uint64{
	0, 1 << 63, 1, 1<<63 | 1, pat(1), pat(-1), pat(0.5), pat(-0.5), pat(2), pat(3), pat(-3), pat(7), pat(1.5), pat(1e16), pat(1e15), pat(1e308), pat(5e-324), pat(2.2250738585072014e-308),
	pat(math.MaxFloat64), pat(-math.MaxFloat64), pat(math.Inf(1)), pat(math.Inf(-1)), nan, nan | 1<<63, 0x7ff0000000000001, 0xffffffffffffffff, pat(1 << 53), pat(1<<53 + 2), pat(0.1), pat(-2.9), pat(2.9), pat(1e22), pat(-1e23),
}

func random(r *rand.Rand) uint64 {
	switch r.Intn(4) {
	case 0:
		return edges[r.Intn(len(edges))]
	case 1:
		return r.Uint64()
	case 2:
		return pat(float64(r.Intn(2000)-1000) / float64(1+r.Intn(16)))
	}
	return pat(math.Ldexp(float64(r.Intn(1<<20)-1<<19), r.Intn(40)-20))
}

func big10(t *testing.T, s string) api.Big {
	t.Helper()
	x, e := whole.Parse(s)
	if e != api.OK {
		t.Fatalf("whole.Parse(%q): %d", s, e)
	}
	return x
}

// P3.1.
func TestParse(t *testing.T) {
	for s, want := range map[string]uint64{
		"1.5": 0x3ff8000000000000, "-0.0": 1 << 63, "1e999": 0x7ff0000000000000, "-1e999": 0xfff0000000000000, "-nan": nan, "nan": nan, "inf": 0x7ff0000000000000, "-inf": 0xfff0000000000000,
		"7": 0x401c000000000000, "1e-999": 0, "-1e-999": 1 << 63, "0.1": pat(0.1), "00.5": pat(0.5), "1e5": pat(1e5), "1e+05": pat(1e5), "1.5e-7": pat(1.5e-7), "5e-324": 1, "2e-324": 0, "0e99999999999999999999": 0,
		"1e99999999999999999999": 0x7ff0000000000000, "1e-99999999999999999999": 0, "9007199254740993": pat(9007199254740992), "9007199254740993.0000000001": pat(9007199254740994),
		"0." + strings.Repeat("0", 990) + "1e991": pat(1), "1" + strings.Repeat("0", 900) + "e-900": pat(1),
	} {
		if b, e := Parse(s); b != want || e != api.OK {
			t.Errorf("Parse(%q) = %x, %d; want %x", s, b, e, want)
		}
	}
	for _, s := range []string{"", "-", "1.", ".5", "+1", "1e", "1e+", "Inf", "NaN", "infinity", "1_0", "0x1p3", "1.5.", "1 ", " 1", "--1", "1e5.0", "1E5", "e5", "1.e5", "-+1", "inf1"} {
		if b, e := Parse(s); b != 0 || e != api.ErrText {
			t.Errorf("Parse(%q) = %x, %d", s, b, e)
		}
	}
	edge := new(big.Int).Sub(new(big.Int).Lsh(big.NewInt(1), 1024), new(big.Int).Lsh(big.NewInt(1), 970))
	if b, e := Parse(edge.String()); b != pat(math.Inf(1)) || e != api.OK {
		t.Errorf("the least number that is rounded to an infinity: %x %d", b, e)
	}
	if b, e := Parse(edge.Sub(edge, big.NewInt(1)).String() + ".9"); b != pat(math.MaxFloat64) || e != api.OK {
		t.Errorf("below it: %x %d", b, e)
	}
	if _, e := Parse(strings.Repeat("1", 1000)); e != api.OK {
		t.Errorf("1000 bytes: %d", e)
	}
	for _, s := range []string{strings.Repeat("1", 1001), strings.Repeat("x", 1001)} {
		if _, e := Parse(s); e != api.ErrLong {
			t.Errorf("1001 bytes: %d", e)
		}
	}
}

// P3.2: by example, and against the rule.
func TestText(t *testing.T) {
	for f, want := range map[float64]string{
		1: "1.0", 1e16: "1e+16", 1e15: "1000000000000000.0", 9999999999999998: "9999999999999998.0", 0.0001: "0.0001", 0.00001: "1e-05", 1.5e-7: "1.5e-07", 2.5: "2.5", 5e-324: "5e-324", -1e100: "-1e+100", 123456: "123456.0", 0.1: "0.1", 0.1 + 0.2: "0.3",
		1.2345e16: "1.2345e+16", math.MaxFloat64: "1.7976931348623157e+308", 1e22: "1e+22", -2.5: "-2.5", 0.00012345: "0.00012345",
	} {
		if got := Text(pat(f)); got != want {
			t.Errorf("Text(%g) = %s, want %s", f, got, want)
		}
	}
	x, y := 0.1, 0.2
	if Text(pat(x+y)) != "0.30000000000000004" {
		t.Error(Text(pat(x + y)))
	}
	for b, want := range map[uint64]string{0: "0.0", 1 << 63: "-0.0", nan: "nan", nan | 1<<63 | 5: "nan", 0x7ff0000000000000: "inf", 0xfff0000000000000: "-inf"} {
		if Text(b) != want {
			t.Errorf("Text(%x) = %s", b, Text(b))
		}
	}
	r := rand.New(rand.NewSource(2))
	for range 20000 {
		b := random(r)
		got, e := Parse(Text(b))
		if e != api.OK || got != Neg(Neg(b)) {
			t.Fatalf("Parse(Text(%x)) = %x, %d", b, got, e)
		}
	}
}

// P3.2: the fewest digits, and of as few the nearest.
func TestTextIsShortest(t *testing.T) {
	r := rand.New(rand.NewSource(3))
	for range 500 {
		b := r.Uint64() &^ sign
		if e := b >> 52; e == 0x7ff {
			continue
		}
		if r.Intn(3) == 0 {
			b &= 0x7ff << 52
		}
		f := number(b)
		if f == 0 {
			continue
		}
		short := strconv.FormatFloat(f, 'e', -1, 64)
		mant, _, _ := strings.Cut(short, "e")
		n := len(strings.Replace(mant, ".", "", 1))
		exactly := new(big.Rat).SetFloat64(f)
		if n > 1 {
			for _, near := range around(exactly, n-1) {
				if g, _ := near.Float64(); g == f {
					t.Fatalf("%x: %s isn't shortest", b, short)
				}
			}
		}
		got, _ := new(big.Rat).SetString(short)
		far := new(big.Rat).Sub(got, exactly)
		for _, near := range around(exactly, n) {
			if g, _ := near.Float64(); g == f && new(big.Rat).Sub(near, exactly).Abs(new(big.Rat).Sub(near, exactly)).Cmp(far.Abs(far)) < 0 {
				t.Fatalf("%x: %s isn't nearest", b, short)
			}
		}
	}
}

// around: the two numbers of n digits next to x.
func around(x *big.Rat, n int) []*big.Rat {
	ten := big.NewRat(10, 1)
	scale, low := big.NewRat(1, 1), new(big.Rat).SetInt(new(big.Int).Exp(big.NewInt(10), big.NewInt(int64(n-1)), nil))
	y := new(big.Rat).Set(x)
	for y.Cmp(low) < 0 {
		y.Mul(y, ten)
		scale.Quo(scale, ten)
	}
	for y.Cmp(new(big.Rat).Mul(low, ten)) >= 0 {
		y.Quo(y, ten)
		scale.Mul(scale, ten)
	}
	down := new(big.Int).Quo(y.Num(), y.Denom())
	up := new(big.Int).Add(down, big.NewInt(1))
	return []*big.Rat{new(big.Rat).Mul(new(big.Rat).SetInt(down), scale), new(big.Rat).Mul(new(big.Rat).SetInt(up), scale)}
}

// P3.3.
func TestOfWhole(t *testing.T) {
	for s, want := range map[string]uint64{"0": 0, "1": pat(1), "-1": pat(-1), "9007199254740993": pat(9007199254740992), "9007199254740995": pat(9007199254740996), "999999999999999999": pat(1e18), "1000000000000000000": pat(1e18), "-100000000000000000000000": pat(-1e23),
		"36893488147419103233": pat(36893488147419103232)} {
		if b, e := Of(big10(t, s)); b != want || e != api.OK {
			t.Errorf("Of(%s) = %x, %d", s, b, e)
		}
	}
	// From 2^1024 - 2^970 on a number is rounded to an infinity.
	edge := new(big.Int).Sub(new(big.Int).Lsh(big.NewInt(1), 1024), new(big.Int).Lsh(big.NewInt(1), 970))
	if _, e := Of(big10(t, edge.String())); e != api.ErrRange {
		t.Errorf("Of at the edge: %d", e)
	}
	if b, e := Of(big10(t, edge.Sub(edge, big.NewInt(1)).String())); b != pat(math.MaxFloat64) || e != api.OK {
		t.Errorf("Of below the edge: %x %d", b, e)
	}
	if b, e := Of(api.Big{Neg: true}); b != 0 || e != api.ErrForm {
		t.Errorf("Of of no number: %d", e)
	}
	for f, want := range map[float64]string{2.9: "2", -2.9: "-2", 0.5: "0", -0.5: "0", 1e22: "10000000000000000000000", -1e23: "-99999999999999991611392", 9007199254740991: "9007199254740991", 9007199254740992: "9007199254740992", -4611686018427387904: "-4611686018427387904"} {
		if x, e := Whole(pat(f)); whole.Text(x) != want || e != api.OK {
			t.Errorf("Whole(%g) = %s, %d", f, whole.Text(x), e)
		}
	}
	if x, e := Whole(1 << 63); len(x.Limbs) != 0 || x.Neg || e != api.OK {
		t.Errorf("Whole(-0): %v %d", x, e)
	}
	if x, e := Whole(pat(math.MaxFloat64)); e != api.OK || len(whole.Text(x)) != 309 {
		t.Errorf("Whole of the greatest: %d", e)
	}
	for b, want := range map[uint64]api.Errno{nan: api.ErrArg, nan + 9: api.ErrArg, pat(math.Inf(1)): api.ErrRange, pat(math.Inf(-1)): api.ErrRange} {
		if x, e := Whole(b); e != want || x.Limbs != nil {
			t.Errorf("Whole(%x): %d", b, e)
		}
	}
}

func rat(b uint64) *big.Rat { return new(big.Rat).SetFloat64(number(b)) }

func finite(b uint64) bool { return !isNaN(number(b)) && !math.IsInf(number(b), 0) }

// P3.4: rounded once, held against exact reckoning; NaN has one pattern.
func TestReckoning(t *testing.T) {
	r := rand.New(rand.NewSource(4))
	for range 20000 {
		a, b := random(r), random(r)
		q, e := Div(a, b)
		if number(b) == 0 {
			if e != api.ErrZero || q != 0 {
				t.Fatalf("Div(%x, %x): %x %d", a, b, q, e)
			}
		} else if e != api.OK {
			t.Fatalf("Div(%x, %x): %d", a, b, e)
		}
		for _, x := range []uint64{Add(a, b), Sub(a, b), Mul(a, b), q, Neg(a)} {
			if isNaN(number(x)) && x != nan {
				t.Fatalf("NaN as %x of %x, %x", x, a, b)
			}
		}
		if !finite(a) || !finite(b) {
			continue
		}
		check := func(what string, got uint64, want *big.Rat) {
			if want.Sign() == 0 {
				return
			}
			if f, _ := want.Float64(); pat(f) != got {
				t.Fatalf("%s of %x, %x: %x, want %x", what, a, b, got, pat(f))
			}
		}
		check("Add", Add(a, b), new(big.Rat).Add(rat(a), rat(b)))
		check("Sub", Sub(a, b), new(big.Rat).Sub(rat(a), rat(b)))
		check("Mul", Mul(a, b), new(big.Rat).Mul(rat(a), rat(b)))
		if number(b) != 0 {
			check("Div", q, new(big.Rat).Quo(rat(a), rat(b)))
		}
	}
}

func TestNoughts(t *testing.T) {
	const p, m = uint64(0), uint64(1 << 63)
	for _, c := range [][3]uint64{{Add(p, m), p}, {Add(m, m), m}, {Add(p, p), p}, {Add(pat(1), pat(-1)), p}, {Sub(p, p), p}, {Sub(m, p), m}, {Sub(m, m), p}, {Mul(m, pat(3)), m}, {Mul(m, m), p}, {Neg(p), m}, {Neg(m), p}, {Neg(nan), nan}, {Neg(nan | m), nan}, {Neg(pat(2)), pat(-2)},
		{Sub(pat(math.Inf(1)), pat(math.Inf(1))), nan}, {Mul(p, pat(math.Inf(1))), nan}} {
		if c[0] != c[1] {
			t.Errorf("%x, want %x", c[0], c[1])
		}
	}
	for _, a := range edges {
		for _, b := range []uint64{p, m} {
			_, e1 := Div(a, b)
			_, e2 := Floor(a, b)
			_, e3 := Mod(a, b)
			if e1 != api.ErrZero || e2 != api.ErrZero || e3 != api.ErrZero {
				t.Errorf("%x by nought: %d %d %d", a, e1, e2, e3)
			}
		}
	}
}

// P3.5.
func TestFloorMod(t *testing.T) {
	inf, minus := math.Inf(1), math.Copysign(0, -1)
	for _, c := range [][4]float64{
		{7, 2, 3, 1}, {-7, 2, -4, 1}, {7, -2, -4, -1}, {-7, -2, 3, -1}, {minus, 3, minus, 0}, {0, -3, minus, minus}, {minus, -3, 0, minus}, {5, inf, 0, 5}, {-5, inf, -1, inf}, {5, -inf, -1, -inf}, {-5, -inf, 0, -5}, {0, inf, 0, 0},
		{-7.5, 2, -4, 0.5}, {5, -0.5, -10, minus}, {1, 0.1, 9, 0.09999999999999995}, {6, 3, 2, 0}, {1e308, 1e-308, inf, math.Mod(1e308, 1e-308)}, {-1e308, 1e-308, -inf, 1e-308 + math.Mod(-1e308, 1e-308)}, {5e-324, 1e308, 0, 5e-324}, {-5e-324, 1e308, -1, 1e308}, {1, 3, 0, 1},
	} {
		f, e1 := Floor(pat(c[0]), pat(c[1]))
		m, e2 := Mod(pat(c[0]), pat(c[1]))
		if f != pat(c[2]) || m != pat(c[3]) || e1 != api.OK || e2 != api.OK {
			t.Errorf("%g by %g: %s, %s; want %g, %g", c[0], c[1], Text(f), Text(m), c[2], c[3])
		}
	}
	for _, c := range [][2]uint64{{nan, pat(1)}, {pat(1), nan}, {pat(inf), pat(2)}, {pat(-inf), pat(2)}, {pat(inf), pat(inf)}, {nan + 7, nan + 9}} {
		f, _ := Floor(c[0], c[1])
		m, _ := Mod(c[0], c[1])
		if f != nan || m != nan {
			t.Errorf("%x by %x: %x %x", c[0], c[1], f, m)
		}
	}
}

// P3.6.
func TestCmp(t *testing.T) {
	for _, a := range edges {
		for _, b := range edges {
			c, ok := Cmp(a, b)
			x, y := number(a), number(b)
			if isNaN(x) || isNaN(y) {
				if c != 0 || ok {
					t.Errorf("Cmp(%x, %x) = %d, %v", a, b, c, ok)
				}
				continue
			}
			if !ok || (c < 0) != (x < y) || (c > 0) != (x > y) {
				t.Errorf("Cmp(%x, %x) = %d, %v", a, b, c, ok)
			}
		}
	}
	for _, c := range []struct {
		f    float64
		x    string
		want int
	}{{9007199254740992, "9007199254740993", -1}, {9007199254740992, "9007199254740992", 0}, {2.5, "2", 1}, {-2.5, "-2", -1}, {-2.5, "-3", 1}, {0.5, "0", 1}, {-0.5, "0", -1}, {math.Inf(1), "1" + strings.Repeat("0", 539), 1}, {math.Inf(-1), "-1" + strings.Repeat("0", 539), -1}, {math.Copysign(0, -1), "0", 0}, {1e22, "10000000000000000000000", 0}, {5e-324, "0", 1}} {
		if got, ok := CmpBig(pat(c.f), big10(t, c.x)); got != c.want || !ok {
			t.Errorf("CmpBig(%g, %s) = %d, %v", c.f, c.x, got, ok)
		}
	}
	if c, ok := CmpBig(nan, api.Big{}); c != 0 || ok {
		t.Error("CmpBig of NaN")
	}
	if c, ok := CmpBig(pat(math.Inf(1)), api.Big{Neg: true}); c != 0 || ok {
		t.Error("CmpBig beside no number")
	}
}

// P3.7.
func TestHash(t *testing.T) {
	for f, want := range map[float64]int{0.5: 1 << 30, -2: -2, 0: 0, 1: 1, 2147483647: 0, 2147483648: 1, -2147483648: -1, 0.25: 1 << 29, math.Inf(1): 314159, math.Inf(-1): -314159, 1.5: 3 << 30 % prime, -0.5: -(1 << 30)} {
		if Hash(pat(f)) != want {
			t.Errorf("Hash(%g) = %d, want %d", f, Hash(pat(f)), want)
		}
	}
	if Hash(1<<63) != 0 || Hash(nan) != 0 || Hash(nan+3) != 0 || HashBig(api.Big{Neg: true}) != 0 {
		t.Error("hashes of edges")
	}
	r := rand.New(rand.NewSource(5))
	for range 3000 {
		b := pat(math.Trunc(number(random(r))))
		x, e := Whole(b)
		if e != api.OK {
			continue
		}
		n, _ := new(big.Int).SetString(whole.Text(x), 10)
		want := new(big.Int).Rem(n, big.NewInt(prime)).Int64()
		if HashBig(x) != int(want) || Hash(b) != int(want) {
			t.Fatalf("hashes of %s: %d, %d; want %d", n, HashBig(x), Hash(b), want)
		}
	}
}
