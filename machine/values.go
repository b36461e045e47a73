package machine

import (
	"strings"

	"scree/api"
	"scree/deep"
	"scree/look"
	"scree/object"
	"scree/plain"
	"scree/table"
	"scree/whole"
	"scree/word"
)

// isRow: lists, tuples and strings are rows.
func (v *vm) isRow(kind int) bool {
	return kind == api.KList || kind == api.KTuple || kind == api.KStr
}

// rowLength is how many items a list, tuple or string has.
func (v *vm) rowLength(w uint64) int {
	switch s, a, _ := look.At(v.mem, w); s.Kind {
	case api.KTuple:
		return s.Tagged
	case api.KStr:
		return int(look.Item(v.mem, a, 0))
	}
	return v.num(w, listCount)
}

// rowItem is the item n of a list, tuple or string that has one of that number.
func (v *vm) rowItem(w uint64, n int) uint64 {
	switch v.kind(w) {
	case api.KTuple:
		return v.item(w, n)
	case api.KStr:
		return v.putText(v.take(w).Text[n : n+1])
	}
	return v.item(v.item(w, listBlock), n)
}

// row are the items of a list, tuple or string, of this one strings of one byte.
func (v *vm) row(w uint64) []uint64 {
	if v.kind(w) != api.KStr {
		return v.items(w)
	}
	return v.letters(v.take(w).Text)
}

// letters are strings of one byte each; a byte that comes again is the same string.
func (v *vm) letters(text string) []uint64 {
	var known [256]uint64
	var out []uint64
	for i := range len(text) {
		b := text[i]
		if known[b] == 0 {
			known[b] = v.putText(text[i : i+1])
		}
		out = append(out, known[b])
	}
	return out
}

// again is a new list or tuple, of the kind of another.
func (v *vm) again(like uint64, items []uint64) uint64 {
	if v.kind(like) == api.KList {
		return v.list(items)
	}
	return v.tuple(items)
}

// binary does OBin.
func (v *vm) binary(op int, a, b uint64) {
	if w, ok := fast(op, a, b); ok {
		v.answer(w)
		return
	}
	if name := specialOf(op); name >= 0 {
		if f, ok := v.special(a, name); ok {
			v.invoke(f, []uint64{a, b}, plainly, none)
			return
		}
	}
	x, y := v.kind(a), v.kind(b)
	isSeq := func(kind int) bool { return kind == api.KList || kind == api.KTuple }
	switch {
	case isPlain(x) && isPlain(y):
		out, err := plain.Bin(op, v.take(a), v.take(b))
		v.must(err)
		v.answer(v.put(out))
	case op == api.Add && x == y && isSeq(x):
		v.answer(v.again(a, append(v.items(a), v.items(b)...)))
	case op == api.Mul && isSeq(x) && isWhole(y):
		v.answer(v.times(a, b))
	case op == api.Mul && isSeq(y) && isWhole(x):
		v.answer(v.times(b, a))
	default:
		v.fail(typeError)
	}
}

// specialOf is the special name of an operator of two, or -1.
func specialOf(op int) int {
	switch op {
	case api.Add:
		return sAdd
	case api.Sub:
		return sSub
	case api.Mul:
		return sMul
	}
	return -1
}

// fast adds and subtracts small numbers, if the result is one.
func fast(op int, a, b uint64) (uint64, bool) {
	x, err1 := word.Num(a)
	y, err2 := word.Num(b)
	if err1 != api.OK || err2 != api.OK {
		return 0, false
	}
	switch op {
	case api.Add:
		w, err := word.Small(x + y)
		return w, err == api.OK
	case api.Sub:
		w, err := word.Small(x - y)
		return w, err == api.OK
	}
	return 0, false
}

// wholeOf is an int or bool as a number.
func (v *vm) wholeOf(w uint64) api.Big {
	x, _ := plain.ToInt(v.take(w))
	return x.Int
}

// times is a list or tuple of another's items so many times.
func (v *vm) times(seq, count uint64) uint64 {
	items, n := v.items(seq), v.wholeOf(count)
	if len(items) == 0 || whole.Sign(n) <= 0 {
		return v.again(seq, nil)
	}
	k, err := whole.Int(n)
	if err != api.OK || k > api.MaxLen/len(items) {
		v.fail(overflowError)
	}
	var out []uint64
	for range k {
		out = append(out, items...)
	}
	return v.again(seq, out)
}

func (v *vm) unary(op int, a uint64) uint64 {
	v.check(isPlain(v.kind(a)))
	out, err := plain.Un(op, v.take(a))
	v.must(err)
	return v.put(out)
}

// compare does OCmp.
func (v *vm) compare(op int, a, b uint64) {
	name, mode, first, second := -1, plainly, a, b
	switch op {
	case api.Eq:
		name = sEq
	case api.Ne:
		name, mode = sEq, asUntruth
	case api.Lt:
		name = sLt
	case api.In:
		name, mode, first, second = sContains, asTruth, b, a
	case api.NotIn:
		name, mode, first, second = sContains, asUntruth, b, a
	}
	if name >= 0 {
		if f, ok := v.special(first, name); ok {
			v.invoke(f, []uint64{first, second}, mode, none)
			return
		}
	}
	v.answer(truthWord(v.compared(op, a, b)))
}

func (v *vm) compared(op int, a, b uint64) bool {
	switch op {
	case api.Eq:
		return v.equal(a, b)
	case api.Ne:
		return !v.equal(a, b)
	case api.In:
		return v.contains(b, a)
	case api.NotIn:
		return !v.contains(b, a)
	case api.Is:
		return v.same(a, b)
	case api.IsNot:
		return !v.same(a, b)
	}
	c, ok, err := deep.Order(v.mem, a, b)
	v.must(err)
	switch op {
	case api.Lt:
		return ok && c < 0
	case api.Le:
		return ok && c <= 0
	case api.Gt:
		return ok && c > 0
	}
	return ok && c >= 0
}

// contains: is the item in what may hold it?
func (v *vm) contains(in, item uint64) bool {
	switch v.kind(in) {
	case api.KStr:
		v.check(v.kind(item) == api.KStr)
		return strings.Contains(v.take(in).Text, v.take(item).Text)
	case api.KList, api.KTuple:
		for _, w := range v.items(in) {
			if v.equal(w, item) {
				return true
			}
		}
		return false
	case api.KDict, api.KSet:
		_, ok := v.find(in, item)
		return ok
	case api.KRange:
		return v.inRange(in, item)
	}
	v.fail(typeError)
	return false
}

// place is the number of an item, told by an int or bool, from the end, if it is below 0; IndexError, if there is none.
func (v *vm) place(b uint64, length int) int {
	v.check(isWhole(v.kind(b)))
	n, err := whole.Int(v.wholeOf(b))
	if err == api.OK && n < 0 {
		n += length
	}
	if err != api.OK || n < 0 || n >= length {
		v.fail(indexError)
	}
	return n
}

// index does OIndex.
func (v *vm) index(a, b uint64) {
	if f, ok := v.special(a, sGetitem); ok {
		v.invoke(f, []uint64{a, b}, plainly, none)
		return
	}
	switch v.kind(a) {
	case api.KList, api.KTuple, api.KStr:
		v.answer(v.rowItem(a, v.place(b, v.rowLength(a))))
	case api.KRange:
		v.answer(v.rangeItem(a, b))
	case api.KDict:
		w, ok := v.find(a, b)
		if !ok {
			v.fail(keyError)
		}
		v.answer(w)
	default:
		v.fail(typeError)
	}
}

// setIndex does OSetIndex.
func (v *vm) setIndex(a, b, value uint64) {
	if f, ok := v.special(a, sSetitem); ok {
		v.invoke(f, []uint64{a, b, value}, dropped, none)
		return
	}
	switch v.kind(a) {
	case api.KList:
		v.must(object.SetAt(&v.mem, a, v.place(b, v.rowLength(a)), value))
	case api.KDict:
		v.putKey(a, b, value)
	default:
		v.fail(typeError)
	}
	v.at++
}

// delIndex does ODelIndex.
func (v *vm) delIndex(a, b uint64) {
	switch v.kind(a) {
	case api.KList:
		items := v.items(a)
		for i := v.place(b, len(items)); i < len(items)-1; i++ {
			object.SetAt(&v.mem, a, i, items[i+1])
		}
		object.Pop(&v.mem, a)
	case api.KDict:
		v.drop(a, b, keyError)
	default:
		v.fail(typeError)
	}
	v.at++
}

// bound is a bound of a slice, brought into 0 .. length.
func (v *vm) bound(w uint64, length, missing int) int {
	if w == none {
		return missing
	}
	v.check(isWhole(v.kind(w)))
	x := v.wholeOf(w)
	n, err := whole.Int(x)
	if err != api.OK {
		n = length
		if x.Neg {
			n = 0
		}
	} else if n < 0 {
		n += length
	}
	return max(0, min(n, length))
}

// slice does OSlice.
func (v *vm) slice(a, from, to uint64) {
	kind := v.kind(a)
	v.check(v.isRow(kind))
	length := v.rowLength(a)
	i := v.bound(from, length, 0)
	j := max(i, v.bound(to, length, length))
	if kind == api.KStr {
		v.answer(v.putText(v.take(a).Text[i:j]))
		return
	}
	v.answer(v.again(a, v.items(a)[i:j]))
}

// keys are those of a dict or set.
func (v *vm) keys(t uint64) []uint64 {
	all, _ := table.Entries(v.mem, t)
	var out []uint64
	for i := 0; i < len(all); i += 2 {
		out = append(out, all[i])
	}
	return out
}
