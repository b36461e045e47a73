package machine

import (
	"scree/api"
	"scree/plain"
	"scree/table"
	"scree/whole"
	"scree/word"
)

// bounds are a range's three numbers.
type bounds struct{ start, stop, step api.Big }

func (v *vm) bounds(w uint64) bounds {
	return bounds{v.wholeOf(v.item(w, 0)), v.wholeOf(v.item(w, 1)), v.wholeOf(v.item(w, 2))}
}

// ahead: does the number lie ahead of stop?
func (b bounds) ahead(x api.Big) bool { return whole.Cmp(x, b.stop)*whole.Sign(b.step) < 0 }

// length is how long the range is. A range's numbers are half as long as an int may be, so nothing here is too great.
func (b bounds) length() api.Big {
	if !b.ahead(b.start) {
		return api.Big{}
	}
	way, _ := whole.Sub(b.stop, b.start)
	way, _ = whole.Sub(way, whole.Of(whole.Sign(b.step)))
	n, _, _ := whole.DivMod(way, b.step)
	n, _ = whole.Add(n, whole.Of(1))
	return n
}

// nth is the number n of the range.
func (b bounds) nth(n api.Big) api.Big {
	way, _ := whole.Mul(n, b.step)
	x, _ := whole.Add(b.start, way)
	return x
}

// rangeItem is the item b of a range.
func (v *vm) rangeItem(a, b uint64) uint64 {
	v.check(isWhole(v.kind(b)))
	r, n := v.bounds(a), v.wholeOf(b)
	length := r.length()
	if n.Neg {
		n, _ = whole.Add(n, length)
	}
	if n.Neg || whole.Cmp(n, length) >= 0 {
		v.fail(indexError)
	}
	return v.putInt(r.nth(n))
}

// inRange: is the value a number equal to an item of the range?
func (v *vm) inRange(w, item uint64) bool {
	kind := v.kind(item)
	if kind != api.KFloat && !isWhole(kind) {
		return false
	}
	// A float is cut to a whole number, which has to be equal to it.
	cut, err := plain.ToInt(v.take(item))
	if err != api.OK || !plain.Equal(v.take(item), cut) {
		return false
	}
	x, r := cut.Int, v.bounds(w)
	if !r.ahead(x) || whole.Cmp(x, r.start)*whole.Sign(r.step) < 0 {
		return false
	}
	way, _ := whole.Sub(x, r.start)
	_, rest, _ := whole.DivMod(way, r.step)
	return whole.Sign(rest) == 0
}

// makeRange is the builtin range.
func (v *vm) makeRange(args []uint64) uint64 {
	words := []uint64{small(0), none, small(1)}
	for _, w := range args {
		v.check(isWhole(v.kind(w)))
		if len(whole.Text(absolute(v.wholeOf(w)))) > api.MaxHalf {
			v.fail(overflowError)
		}
	}
	for i, w := range args {
		k := i
		if len(args) == 1 {
			k = 1
		}
		words[k] = v.putInt(v.wholeOf(w))
	}
	if words[2] == small(0) {
		v.fail(valueError)
	}
	return v.object(api.KRange, words...)
}

func absolute(x api.Big) api.Big {
	if x.Neg {
		return whole.Neg(x)
	}
	return x
}

// iter is the builtin iter.
func (v *vm) iter(a uint64) {
	if f, ok := v.special(a, sIter); ok {
		v.invoke(f, []uint64{a}, asIter, none)
		return
	}
	switch kind := v.kind(a); {
	case kind == api.KIter || kind == api.KGen:
		v.answer(a)
	case kind == api.KRange:
		v.answer(v.object(api.KIter, a, v.item(a, 0)))
	case v.isRow(kind):
		v.answer(v.object(api.KIter, a, small(0)))
	case kind == api.KDict || kind == api.KSet:
		v.answer(v.object(api.KIter, v.tuple(v.keys(a)), small(0)))
	default:
		v.fail(typeError)
	}
}

// goesOn: is it an iterator, a generator, or an instance with the special __next__?
func (v *vm) goesOn(w uint64) bool {
	if kind := v.kind(w); kind == api.KIter || kind == api.KGen {
		return true
	}
	_, ok := v.special(w, sNext)
	return ok
}

// next does ONext (itemOf) and the builtin next (nextOf).
func (v *vm) next(a uint64, mode int) {
	switch v.kind(a) {
	case api.KIter:
		w, ok := v.nextItem(a)
		if !ok {
			v.noMore(mode)
			return
		}
		v.answer(w)
	case api.KGen:
		v.resume(a, mode)
	default:
		f, ok := v.special(a, sNext)
		v.check(ok)
		how := plainly
		if mode == itemOf {
			how = asNext
		}
		v.invoke(f, []uint64{a}, how, none)
	}
}

// nextItem is an iterator's next item, if it has one; the iterator goes on.
func (v *vm) nextItem(it uint64) (uint64, bool) {
	over, at := v.item(it, iterOver), v.item(it, iterNext)
	if v.kind(over) == api.KRange {
		if more, then, ok := v.nextSmall(over, at); ok {
			if more {
				v.setItem(it, iterNext, then)
			}
			return at, more
		}
		r := v.bounds(over)
		if !r.ahead(v.wholeOf(at)) {
			return 0, false
		}
		then, _ := whole.Add(v.wholeOf(at), r.step)
		v.setItem(it, iterNext, v.putInt(then))
		return at, true
	}
	n, _ := word.Num(at)
	if n >= v.rowLength(over) {
		return 0, false
	}
	w := v.rowItem(over, n)
	v.setItem(it, iterNext, small(n+1))
	return w, true
}

// nextSmall is the next item of an iterator over a range of small numbers, and the one behind it; false, if it isn't so simple.
func (v *vm) nextSmall(over, at uint64) (more bool, then uint64, ok bool) {
	x, err1 := word.Num(at)
	stop, err2 := word.Num(v.item(over, 1))
	step, err3 := word.Num(v.item(over, 2))
	if err1 != api.OK || err2 != api.OK || err3 != api.OK {
		return false, 0, false
	}
	then, err := word.Small(x + step)
	return step > 0 && x < stop || step < 0 && x > stop, then, err == api.OK
}

// itemsLeft are all items of what list, tuple and set are made of; an iterator goes on to its end, when nothing can fail any more.
func (v *vm) itemsLeft(w uint64) []uint64 {
	switch kind := v.kind(w); {
	case v.isRow(kind):
		return v.row(w)
	case kind == api.KDict || kind == api.KSet:
		return v.keys(w)
	case kind == api.KRange:
		items, _ := v.rangeLeft(v.bounds(w))
		return items
	case kind == api.KIter:
		return v.iterLeft(w)
	}
	v.fail(typeError)
	return nil
}

// rangeLeft are all numbers of a range, and the one behind them; OverflowError, if they are too many.
func (v *vm) rangeLeft(r bounds) ([]uint64, uint64) {
	n, err := whole.Int(r.length())
	if err != api.OK || n > api.MaxLen {
		v.fail(overflowError)
	}
	var out []uint64
	x := r.start
	for range n {
		out = append(out, v.putInt(x))
		x, _ = whole.Add(x, r.step)
	}
	return out, v.putInt(x)
}

func (v *vm) iterLeft(it uint64) []uint64 {
	over, at := v.item(it, iterOver), v.item(it, iterNext)
	if v.kind(over) == api.KRange {
		r := v.bounds(over)
		r.start = v.wholeOf(at)
		items, end := v.rangeLeft(r)
		v.soon(func() { v.setItem(it, iterNext, end) })
		return items
	}
	n, _ := word.Num(at)
	length := v.rowLength(over)
	if n >= length {
		return nil
	}
	v.soon(func() { v.setItem(it, iterNext, small(length)) })
	if v.kind(over) == api.KStr {
		return v.letters(v.take(over).Text[n:])
	}
	return v.items(over)[n:]
}

// copyDict is a new dict of another's keys and values.
func (v *vm) copyDict(d uint64) uint64 {
	all, _ := table.Entries(v.mem, d)
	return v.dictOf(all)
}
