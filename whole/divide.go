package whole

import (
	"math/bits"

	"scree/api"
)

// mulSizes multiplies each limb with each.
func mulSizes(a, b []uint64) []uint64 {
	out := make([]uint64, len(a)+len(b))
	for i := range len(a) {
		carry := uint64(0)
		for j := range len(b) {
			out[i+j], carry = mulAdd(a[i], b[j], out[i+j], carry)
		}
		out[i+len(b)] = carry
	}
	return out
}

// mulAdd is p * q + r + s as a limb and what it carries.
func mulAdd(p, q, r, s uint64) (uint64, uint64) {
	hi, lo := bits.Mul64(p, q)
	lo, more := bits.Add64(lo, r, 0)
	hi += more
	lo, more = bits.Add64(lo, s, 0)
	hi += more
	carry, limb := bits.Div64(hi, lo, base)
	return limb, carry
}

// DivMod: the quotient rounded down, and the rest.
func DivMod(x, y api.Big) (api.Big, api.Big, api.Errno) {
	if !Good(x) || !Good(y) {
		return api.Big{}, api.Big{}, api.ErrForm
	}
	if len(y.Limbs) == 0 {
		return api.Big{}, api.Big{}, api.ErrZero
	}
	ql, rl := divSizes(x.Limbs, y.Limbs)
	q, r := made(x.Neg != y.Neg, ql), made(x.Neg, rl)
	if len(r.Limbs) == 0 || x.Neg == y.Neg {
		return q, r, api.OK
	}
	// Cut towards 0 so far: of unlike signs the quotient lies one below.
	q = made(true, addSizes(q.Limbs, []uint64{1}))
	return q, made(y.Neg, subSizes(y.Limbs, r.Limbs)), api.OK
}

// divSizes is the quotient and the rest of sizes; b isn't 0.
func divSizes(a, b []uint64) ([]uint64, []uint64) {
	if cmpSizes(a, b) < 0 {
		rest := make([]uint64, len(a))
		copy(rest, a)
		return nil, rest
	}
	if len(b) == 1 {
		q, r := divLimb(a, b[0])
		return q, []uint64{r}
	}
	return divLong(a, b)
}

// divLimb divides by one limb.
func divLimb(a []uint64, d uint64) ([]uint64, uint64) {
	out := make([]uint64, len(a))
	rest := uint64(0)
	for i := range len(a) {
		k := len(a) - 1 - i
		hi, lo := bits.Mul64(rest, base)
		lo, more := bits.Add64(lo, a[k], 0)
		out[k], rest = bits.Div64(hi+more, lo, d)
	}
	return out, rest
}

// divLong divides place by place. Both are scaled, so that the divisor's last limb is at least half of the base: then a place that is guessed from it is at most two too great.
func divLong(a, b []uint64) ([]uint64, []uint64) {
	scale := base / (b[len(b)-1] + 1)
	v := mulSizes(b, []uint64{scale})[:len(b)]
	u := mulSizes(a, []uint64{scale})
	n := len(v)
	q := make([]uint64, len(u)-n)
	for i := range len(q) {
		k := len(q) - 1 - i
		guess := guessPlace(u[k+n], u[k+n-1], v[n-1])
		short := takeTimes(u[k:k+n+1], v, guess)
		for short {
			guess--
			short = !giveBack(u[k:k+n+1], v)
		}
		q[k] = guess
	}
	rest, _ := divLimb(u[:n], scale)
	return q, rest
}

// guessPlace is (hi * base + lo) / d, but below the base.
func guessPlace(hi, lo, d uint64) uint64 {
	if hi >= d {
		return base - 1
	}
	p, q := bits.Mul64(hi, base)
	q, more := bits.Add64(q, lo, 0)
	out, _ := bits.Div64(p+more, q, d)
	return out
}

// takeTimes takes v so many times from u, and tells whether u fell below 0 (it has gone round then).
func takeTimes(u, v []uint64, times uint64) bool {
	carry, borrow := uint64(0), uint64(0)
	for i := range len(u) {
		less := carry
		if i < len(v) {
			less, carry = mulAdd(v[i], times, carry, 0)
		}
		less += borrow
		borrow = 0
		if u[i] < less {
			u[i] += base
			borrow = 1
		}
		u[i] -= less
	}
	return borrow == 1
}

// giveBack adds v to u, and tells whether u came round to 0 or above.
func giveBack(u, v []uint64) bool {
	carry := uint64(0)
	for i := range len(u) {
		sum := u[i] + carry
		if i < len(v) {
			sum += v[i]
		}
		carry = sum / base
		u[i] = sum % base
	}
	return carry == 1
}
