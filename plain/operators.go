package plain

import (
	"strings"

	"scree/api"
	"scree/real"
	"scree/whole"
)

// ints is an int, if nothing went wrong.
func ints(x api.Big, err api.Errno) (api.Value, api.Errno) {
	if err != api.OK {
		return api.Value{}, err
	}
	return api.Value{Kind: api.KInt, Int: x}, api.OK
}

// floats is a float, if nothing went wrong.
func floats(b uint64, err api.Errno) (api.Value, api.Errno) {
	if err != api.OK {
		return api.Value{}, err
	}
	return api.Value{Kind: api.KFloat, Bits: b}, api.OK
}

// toFloat is a number as a float, with NaN's one pattern.
func toFloat(v api.Value) (uint64, api.Errno) {
	if v.Kind == api.KFloat {
		return real.Neg(real.Neg(v.Bits)), api.OK
	}
	return real.Of(toBig(v))
}

// Bin: an operator of two.
func Bin(op int, a, b api.Value) (api.Value, api.Errno) {
	switch {
	case !Good(a) || !Good(b):
		return api.Value{}, api.ErrForm
	case op < api.Add || op > api.Pow:
		return api.Value{}, api.ErrType
	case isWhole(a) && isWhole(b):
		return binWhole(op, toBig(a), toBig(b))
	case isNumber(a) && isNumber(b):
		return binFloat(op, a, b)
	case op == api.Add && a.Kind == api.KStr && b.Kind == api.KStr:
		if len(a.Text)+len(b.Text) > api.MaxLen {
			return api.Value{}, api.ErrLong
		}
		return api.Value{Kind: api.KStr, Text: a.Text + b.Text}, api.OK
	case op == api.Mul && a.Kind == api.KStr && isWhole(b):
		return repeat(a.Text, toBig(b))
	case op == api.Mul && b.Kind == api.KStr && isWhole(a):
		return repeat(b.Text, toBig(a))
	}
	return api.Value{}, api.ErrType
}

// repeat is the string so many times.
func repeat(s string, times api.Big) (api.Value, api.Errno) {
	if times.Neg || len(times.Limbs) == 0 || s == "" {
		return api.Value{Kind: api.KStr}, api.OK
	}
	n, err := whole.Int(times)
	if err != api.OK || n > api.MaxLen/len(s) {
		return api.Value{}, api.ErrLong
	}
	return api.Value{Kind: api.KStr, Text: strings.Repeat(s, n)}, api.OK
}

func binWhole(op int, a, b api.Big) (api.Value, api.Errno) {
	switch op {
	case api.Add:
		return ints(whole.Add(a, b))
	case api.Sub:
		return ints(whole.Sub(a, b))
	case api.Mul:
		return ints(whole.Mul(a, b))
	case api.Pow:
		return ints(whole.Pow(a, b))
	case api.Div:
		return divWhole(a, b)
	}
	q, r, err := whole.DivMod(a, b)
	if op == api.Floor {
		return ints(q, err)
	}
	return ints(r, err)
}

// divWhole divides whole numbers as floats.
func divWhole(a, b api.Big) (api.Value, api.Errno) {
	if len(b.Limbs) == 0 {
		return api.Value{}, api.ErrZero
	}
	x, err := real.Of(a)
	if err != api.OK {
		return api.Value{}, err
	}
	y, err := real.Of(b)
	if err != api.OK {
		return api.Value{}, err
	}
	return floats(real.Div(x, y))
}

func binFloat(op int, a, b api.Value) (api.Value, api.Errno) {
	if op == api.Pow {
		return api.Value{}, api.ErrType
	}
	x, err := toFloat(a)
	if err != api.OK {
		return api.Value{}, err
	}
	y, err := toFloat(b)
	if err != api.OK {
		return api.Value{}, err
	}
	switch op {
	case api.Add:
		return floats(real.Add(x, y), api.OK)
	case api.Sub:
		return floats(real.Sub(x, y), api.OK)
	case api.Mul:
		return floats(real.Mul(x, y), api.OK)
	case api.Div:
		return floats(real.Div(x, y))
	case api.Floor:
		return floats(real.Floor(x, y))
	}
	return floats(real.Mod(x, y))
}

// own is the number with a list of its own.
func own(x api.Big) api.Big { return whole.Neg(whole.Neg(x)) }

// Un: an operator of one.
func Un(op int, a api.Value) (api.Value, api.Errno) {
	switch {
	case !Good(a):
		return api.Value{}, api.ErrForm
	case !isNumber(a) || op != api.Neg && op != api.Pos:
		return api.Value{}, api.ErrType
	case a.Kind == api.KFloat && op == api.Neg:
		return floats(real.Neg(a.Bits), api.OK)
	case a.Kind == api.KFloat:
		return floats(toFloat(a))
	case op == api.Neg:
		return ints(whole.Neg(toBig(a)), api.OK)
	}
	return ints(own(toBig(a)), api.OK)
}

// textually is an error of a text: of every text that says no number.
func textually(err api.Errno) api.Errno {
	if err == api.ErrLong {
		return api.ErrText
	}
	return err
}

// ToInt: as an int.
func ToInt(v api.Value) (api.Value, api.Errno) {
	switch {
	case !Good(v):
		return api.Value{}, api.ErrForm
	case isWhole(v):
		return ints(own(toBig(v)), api.OK)
	case v.Kind == api.KFloat:
		return ints(real.Whole(v.Bits))
	case v.Kind == api.KStr:
		x, err := whole.Parse(v.Text)
		return ints(x, textually(err))
	}
	return api.Value{}, api.ErrType
}

// ToFloat: as a float.
func ToFloat(v api.Value) (api.Value, api.Errno) {
	switch {
	case !Good(v):
		return api.Value{}, api.ErrForm
	case isNumber(v):
		return floats(toFloat(v))
	case v.Kind == api.KStr:
		b, err := real.Parse(v.Text)
		return floats(b, textually(err))
	}
	return api.Value{}, api.ErrType
}
