// Package word is layer 1: the tagged words of the memory. A word's two lowest bits say whether it stands for an address, a small number or a constant.
package word

import "scree/api"

// The kinds of words.
const (
	Address = iota
	Number
	Constant
	Nothing
)

// The constants.
const (
	None = iota
	False
	True
	Unbound
)

// top is the greatest small number.
const top = 1000000000000000000 - 1

// Addr: the word of an address.
func Addr(a int) (uint64, api.Errno) {
	if a < 1 || a >= api.MaxWords {
		return 0, api.ErrArg
	}
	return uint64(a) << 2, api.OK
}

// Small: the word of a small number.
func Small(n int) (uint64, api.Errno) {
	if n < -top || n > top {
		return 0, api.ErrRange
	}
	return uint64(n)<<2 + Number, api.OK
}

// Const: the word of a constant.
func Const(k int) (uint64, api.Errno) {
	if k < None || k > Unbound {
		return 0, api.ErrArg
	}
	return uint64(k)<<2 + Constant, api.OK
}

// Kind: what the word stands for.
func Kind(w uint64) int {
	switch w & 3 {
	case Address:
		if w>>2 >= 1 && w>>2 < api.MaxWords {
			return Address
		}
	case Number:
		if n := int64(w) >> 2; n >= -top && n <= top {
			return Number
		}
	case Constant:
		if w>>2 <= Unbound {
			return Constant
		}
	}
	return Nothing
}

// At: the address that the word stands for.
func At(w uint64) (int, api.Errno) {
	if Kind(w) != Address {
		return 0, api.ErrType
	}
	return int(w >> 2), api.OK
}

// Num: the small number.
func Num(w uint64) (int, api.Errno) {
	if Kind(w) != Number {
		return 0, api.ErrType
	}
	return int(int64(w) >> 2), api.OK
}

// Which: the constant.
func Which(w uint64) (int, api.Errno) {
	if Kind(w) != Constant {
		return 0, api.ErrType
	}
	return int(w >> 2), api.OK
}
