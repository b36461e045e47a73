package plain

import (
	"math"
	"math/rand"
	"reflect"
	"strings"
	"testing"

	"scree/api"
	"scree/real"
	"scree/whole"
)

func i(n int) api.Value       { return api.Value{Kind: api.KInt, Int: whole.Of(n)} }
func f(x float64) api.Value   { return api.Value{Kind: api.KFloat, Bits: math.Float64bits(x)} }
func s(text string) api.Value { return api.Value{Kind: api.KStr, Text: text} }
func bo(yes bool) api.Value   { return api.Value{Kind: api.KBool, Yes: yes} }
func g(digits string) api.Value {
	x, _ := whole.Parse(digits)
	return api.Value{Kind: api.KInt, Int: x}
}

var (
	none   = api.Value{}
	nan    = api.Value{Kind: api.KFloat, Bits: 0x7ff8000000000000}
	oddNaN = api.Value{Kind: api.KFloat, Bits: 0xfff0000000000009}
	inf    = f(math.Inf(1))
	minus0 = f(math.Copysign(0, -1))
	huge   = g("1" + strings.Repeat("0", 400))
	bad    = []api.Value{{Kind: api.KList}, {Kind: -1}, {Kind: 99}, {Yes: true}, {Kind: api.KInt, Int: api.Big{Neg: true}}, {Kind: api.KInt, Text: "x"}, {Kind: api.KStr, Bits: 1}, {Kind: api.KStr, Text: strings.Repeat("x", 20001)}, {Kind: api.KFloat, Int: whole.Of(1)}, {Kind: api.KBool, Text: "x"}, {Kind: api.KNone, Items: []api.Value{{}}}, {Kind: api.KFloat, Yes: true}, {Kind: api.KBool, Int: api.Big{Neg: true}}}
	all    = []api.Value{none, bo(false), bo(true), i(0), i(1), i(-7), i(2), f(0), minus0, f(1), f(-7), f(0.5), nan, oddNaN, inf, f(math.Inf(-1)), s(""), s("a"), s("ab"), s("b"), huge, g("9007199254740993"), f(9007199254740992)}
)

func same(a, b api.Value) bool {
	return a.Kind == b.Kind && a.Yes == b.Yes && a.Text == b.Text && a.Bits == b.Bits && whole.Cmp(a.Int, b.Int) == 0 && len(a.Items) == len(b.Items) && a.Int.Neg == b.Int.Neg
}

// P15.1.
func TestGoodTruth(t *testing.T) {
	for _, v := range bad {
		if Good(v) || Truth(v) {
			t.Errorf("%v", v)
		}
	}
	for n, want := range []bool{false, false, true, false, true, true, true, false, false, true, true, true, true, true, true, true, false, true, true, true, true, true, true} {
		if !Good(all[n]) || Truth(all[n]) != want {
			t.Errorf("Truth(%v) = %v", all[n], !want)
		}
	}
	if !Good(api.Value{Kind: api.KStr, Int: api.Big{Limbs: []uint64{}}, Text: strings.Repeat("x", 20000)}) {
		t.Error("20000 bytes, an empty list")
	}
}

// P15.2, P15.4: equal values have one hash.
func TestEqualSame(t *testing.T) {
	for _, c := range []struct {
		a, b        api.Value
		equal, same bool
	}{{bo(true), i(1), true, false}, {i(1), f(1), true, false}, {f(0), minus0, true, false}, {nan, nan, false, true}, {nan, oddNaN, false, true}, {g("9007199254740993"), f(9007199254740992), false, false}, {s(""), none, false, false}, {none, none, true, true}, {none, bo(false), false, false}, {s("a"), s("a"), true, true}, {s("a"), s("b"), false, false},
		{i(5), i(5), true, true}, {i(5), i(-5), false, false}, {f(2.5), f(2.5), true, true}, {inf, inf, true, true}, {inf, huge, false, false}, {bo(true), bo(true), true, true}, {bo(true), bo(false), false, false}, {bo(false), f(0), true, false}, {none, i(0), false, false}, {s("1"), i(1), false, false}, {huge, huge, true, true}} {
		if Equal(c.a, c.b) != c.equal || Equal(c.b, c.a) != c.equal || Same(c.a, c.b) != c.same || Same(c.b, c.a) != c.same {
			t.Errorf("%v, %v: %v, %v", c.a, c.b, Equal(c.a, c.b), Same(c.a, c.b))
		}
	}
	for _, v := range bad {
		if Equal(v, v) || Same(v, v) || Equal(v, i(1)) || Same(i(1), v) || Hash(v) != 0 || Text(v) != "" || Quote(v) != "" {
			t.Errorf("%v", v)
		}
	}
	for _, a := range all {
		for _, b := range all {
			if Equal(a, b) && Hash(a) != Hash(b) {
				t.Errorf("hashes of %v and %v", a, b)
			}
		}
	}
}

// P15.3.
func TestOrder(t *testing.T) {
	for _, c := range []struct {
		a, b api.Value
		c    int
		ok   bool
		err  api.Errno
	}{{i(1), f(1.5), -1, true, 0}, {nan, i(1), 0, false, 0}, {i(1), nan, 0, false, 0}, {s("a"), s("ab"), -1, true, 0}, {s("b"), s("ab"), 1, true, 0}, {s("a"), s("a"), 0, true, 0}, {s("\xff"), s("a"), 1, true, 0}, {s("a"), i(1), 0, false, api.ErrType}, {none, none, 0, false, api.ErrType}, {bo(true), i(0), 1, true, 0}, {huge, inf, -1, true, 0}, {f(math.Inf(-1)), huge, -1, true, 0},
		{g("9007199254740993"), f(9007199254740992), 1, true, 0}, {f(9007199254740992), g("9007199254740993"), -1, true, 0}, {minus0, i(0), 0, true, 0}, {bad[0], none, 0, false, api.ErrForm}, {i(1), bad[4], 0, false, api.ErrForm}, {i(-5), i(-6), 1, true, 0}, {f(-1), bo(false), -1, true, 0}} {
		if x, ok, e := Order(c.a, c.b); x != c.c || ok != c.ok || e != c.err {
			t.Errorf("Order(%v, %v): %d %v %d", c.a, c.b, x, ok, e)
		}
	}
}

// P15.4, P15.5.
func TestTexts(t *testing.T) {
	for _, c := range []struct {
		v           api.Value
		hash        int
		text, quote string
	}{{none, 1, "None", "None"}, {bo(true), 1, "True", "True"}, {bo(false), 0, "False", "False"}, {i(-12), -12, "-12", "-12"}, {f(0.5), 1 << 30, "0.5", "0.5"}, {nan, 0, "nan", "nan"}, {oddNaN, 0, "nan", "nan"}, {minus0, 0, "-0.0", "-0.0"}, {s("a"), 129, "a", "'a'"}, {s(""), 0, "", "''"}, {s("a'\n\xc8"), -1, "a'\n\xc8", "'a\\'\\n\\xc8'"},
		{s("\t\\\"\x00\x1f\x7f~ "), -1, "\t\\\"\x00\x1f\x7f~ ", "'\\t\\\\\"\\x00\\x1f\\x7f~ '"}, {s("ab"), (31*(31*2+98) + 99), "ab", "'ab'"}, {g("2147483648"), 1, "2147483648", "2147483648"}} {
		if c.hash >= 0 && Hash(c.v) != c.hash && c.v.Kind != api.KInt || Text(c.v) != c.text || Quote(c.v) != c.quote {
			t.Errorf("%v: %d %q %q", c.v, Hash(c.v), Text(c.v), Quote(c.v))
		}
	}
	h := 20000
	for range 20000 {
		h = (31*h + 256) % (1<<31 - 1)
	}
	if Hash(s(strings.Repeat("\xff", 20000))) != h {
		t.Error("a long string's hash")
	}
}

// P15.6.
func TestBin(t *testing.T) {
	for _, c := range []struct {
		op   int
		a, b api.Value
		want api.Value
		err  api.Errno
	}{
		{api.Add, bo(true), i(1), i(2), 0}, {api.Div, i(1), i(2), f(0.5), 0}, {api.Div, i(0), i(0), none, api.ErrZero}, {api.Div, bo(true), bo(false), none, api.ErrZero}, {api.Floor, i(-7), i(2), i(-4), 0}, {api.Mod, i(-7), i(2), i(1), 0}, {api.Floor, i(7), bo(false), none, api.ErrZero}, {api.Mod, i(7), i(0), none, api.ErrZero},
		{api.Mul, f(1e308), i(10), inf, 0}, {api.Mul, huge, f(1.5), none, api.ErrRange}, {api.Add, f(1.5), huge, none, api.ErrRange}, {api.Div, huge, i(3), none, api.ErrRange}, {api.Div, i(3), huge, none, api.ErrRange}, {api.Div, huge, i(0), none, api.ErrZero}, {api.Pow, i(2), i(-1), none, api.ErrArg}, {api.Pow, i(2), f(0.5), none, api.ErrType}, {api.Pow, huge, f(0.5), none, api.ErrType}, {api.Pow, f(2), i(2), none, api.ErrType}, {api.Pow, i(2), i(10), i(1024), 0},
		{api.Mul, s("ab"), i(3), s("ababab"), 0}, {api.Mul, i(-1), s("ab"), s(""), 0}, {api.Mul, bo(true), s("ab"), s("ab"), 0}, {api.Mul, s("a"), i(20001), none, api.ErrLong}, {api.Mul, s("a"), i(20000), s(strings.Repeat("a", 20000)), 0}, {api.Mul, s("ab"), huge, none, api.ErrLong}, {api.Mul, s(""), huge, s(""), 0}, {api.Mul, s("abc"), i(6667), none, api.ErrLong}, {api.Mul, s("a"), f(2), none, api.ErrType}, {api.Mul, s("a"), s("b"), none, api.ErrType},
		{api.Add, s("a"), i(1), none, api.ErrType}, {api.Sub, s("a"), s("b"), none, api.ErrType}, {api.Add, s("a"), s("b"), s("ab"), 0}, {api.Add, s(strings.Repeat("a", 20000)), s("b"), none, api.ErrLong}, {api.Add, none, none, none, api.ErrType}, {api.Add, i(1), none, none, api.ErrType}, {0, i(1), i(1), none, api.ErrType}, {8, i(1), i(1), none, api.ErrType}, {8, i(1), bad[0], none, api.ErrForm}, {api.Add, bad[1], i(1), none, api.ErrForm},
		{api.Sub, f(1), bo(true), f(0), 0}, {api.Add, minus0, bo(false), f(0), 0}, {api.Mul, minus0, i(1), minus0, 0}, {api.Mod, f(5), f(-0.5), minus0, 0}, {api.Floor, f(-7.5), i(2), f(-4), 0}, {api.Floor, f(1), f(0), none, api.ErrZero}, {api.Mod, i(1), minus0, none, api.ErrZero}, {api.Div, nan, f(0), none, api.ErrZero}, {api.Add, oddNaN, i(1), nan, 0}, {api.Sub, g("1" + strings.Repeat("0", 539)), g("-9" + strings.Repeat("0", 539)), none, api.ErrRange}, {api.Pow, i(10), i(540), none, api.ErrRange},
		{api.Div, f(1), huge, none, api.ErrRange}, {api.Floor, huge, f(0), none, api.ErrRange},
	} {
		if got, e := Bin(c.op, c.a, c.b); !same(got, c.want) || e != c.err || e == api.OK && !Good(got) {
			t.Errorf("Bin(%d, %.40v, %.40v): %.40v %d", c.op, c.a, c.b, got, e)
		}
	}
	r := rand.New(rand.NewSource(1))
	for range 5000 {
		a, b, op := all[r.Intn(len(all))], all[r.Intn(len(all))], 1+r.Intn(7)
		got, e := Bin(op, a, b)
		if e != api.OK && !same(got, none) || e == api.OK && !Good(got) {
			t.Fatalf("Bin(%d, %v, %v): %v %d", op, a, b, got, e)
		}
		if got.Kind == api.KFloat && got.Bits != real.Neg(real.Neg(got.Bits)) {
			t.Fatal("NaN's pattern")
		}
	}
}

// P15.7, P15.8.
func TestUnAndConversions(t *testing.T) {
	un := func(op int) func(api.Value) (api.Value, api.Errno) {
		return func(v api.Value) (api.Value, api.Errno) { return Un(op, v) }
	}
	for n, c := range []struct {
		call func(api.Value) (api.Value, api.Errno)
		v    api.Value
		want api.Value
		err  api.Errno
	}{
		{un(api.Neg), bo(true), i(-1), 0}, {un(api.Neg), f(0), minus0, 0}, {un(api.Pos), minus0, minus0, 0}, {un(api.Pos), bo(true), i(1), 0}, {un(api.Neg), i(5), i(-5), 0}, {un(api.Pos), i(-5), i(-5), 0}, {un(api.Neg), oddNaN, nan, 0}, {un(api.Pos), oddNaN, nan, 0}, {un(api.Neg), s("a"), none, api.ErrType}, {un(api.Pos), none, none, api.ErrType}, {un(0), i(1), none, api.ErrType}, {un(3), i(1), none, api.ErrType}, {un(3), bad[0], none, api.ErrForm}, {un(api.Neg), bo(false), i(0), 0},
		{ToInt, s("-007"), i(-7), 0}, {ToInt, s(" 7"), none, api.ErrText}, {ToInt, s(strings.Repeat("1", 541)), none, api.ErrText}, {ToInt, s(""), none, api.ErrText}, {ToInt, nan, none, api.ErrArg}, {ToInt, inf, none, api.ErrRange}, {ToInt, f(-2.9), i(-2), 0}, {ToInt, bo(true), i(1), 0}, {ToInt, i(9), i(9), 0}, {ToInt, none, none, api.ErrType}, {ToInt, bad[2], none, api.ErrForm},
		{ToFloat, s("inf"), inf, 0}, {ToFloat, s("1e5"), f(100000), 0}, {ToFloat, s("x"), none, api.ErrText}, {ToFloat, s(strings.Repeat("1", 1001)), none, api.ErrText}, {ToFloat, none, none, api.ErrType}, {ToFloat, huge, none, api.ErrRange}, {ToFloat, bo(true), f(1), 0}, {ToFloat, i(3), f(3), 0}, {ToFloat, oddNaN, nan, 0}, {ToFloat, s("-nan"), nan, 0}, {ToFloat, minus0, minus0, 0}, {ToFloat, bad[3], none, api.ErrForm},
	} {
		if got, e := c.call(c.v); !same(got, c.want) || e != c.err {
			t.Errorf("case %d: %v %d", n, got, e)
		}
	}
}

// P15.9.
func TestMemory(t *testing.T) {
	a := api.Value{Kind: api.KInt, Int: api.Big{Limbs: append(make([]uint64, 0, 9), 3)}}
	keep := api.Value{Kind: api.KInt, Int: whole.Of(3)}
	for n, call := range []func() (api.Value, api.Errno){
		func() (api.Value, api.Errno) { return Un(api.Pos, a) }, func() (api.Value, api.Errno) { return Un(api.Neg, a) }, func() (api.Value, api.Errno) { return ToInt(a) }, func() (api.Value, api.Errno) { return Bin(api.Add, a, i(0)) }, func() (api.Value, api.Errno) { return Bin(api.Pow, a, i(1)) }, func() (api.Value, api.Errno) { return Bin(api.Mod, a, i(9)) },
	} {
		got, e := call()
		got.Int.Limbs[0] = 77
		_ = append(got.Int.Limbs, 5)
		if e != api.OK || !reflect.DeepEqual(a.Int, keep.Int) || a.Int.Limbs[:2][1] != 0 {
			t.Errorf("call %d shares memory", n)
		}
	}
}
