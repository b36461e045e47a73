package real

import (
	"math"

	"scree/api"
	"scree/whole"
)

const (
	prime   = 1<<31 - 1
	turn    = 31 // 2 to this power is 1 modulo the prime
	hashInf = 314159
	limb    = 1000000000000000000 % prime
)

// Hash: the hash. A float that is a whole number has that number's hash.
func Hash(b uint64) int {
	f := number(b)
	h := 0
	switch {
	case isNaN(f):
		return 0
	case math.IsInf(f, 0):
		h = hashInf
	default:
		m, e := parts(b)
		h = m % prime * (1 << ((e%turn + turn) % turn)) % prime
	}
	if signed(f) {
		return -h
	}
	return h
}

// HashBig: a whole number's hash.
func HashBig(x api.Big) int {
	if !whole.Good(x) {
		return 0
	}
	h := 0
	for i := range len(x.Limbs) {
		h = (h*limb + int(x.Limbs[len(x.Limbs)-1-i]%prime)) % prime
	}
	if x.Neg {
		return -h
	}
	return h
}
