package machine

import (
	"scree/api"
	"scree/merge"
	"scree/table"
)

// newClass makes a class; behind are the classes of its order that stand behind it.
func (v *vm) newClass(name uint64, behind []uint64) uint64 {
	class := v.object(api.KClass, name, v.newSerial(), none, none)
	order := v.tuple(append([]uint64{class}, behind...))
	v.setItem(class, classOrder, order)
	return class
}

// order are the classes in which a class is searched.
func (v *vm) order(class uint64) []uint64 { return v.items(v.item(class, classOrder)) }

// isBelow: does the class have the other one in its order?
func (v *vm) isBelow(class, other uint64) bool {
	for _, c := range v.order(class) {
		if c == other {
			return true
		}
	}
	return false
}

// isExceptionClass: is the word a class of exceptions?
func (v *vm) isExceptionClass(w uint64) bool {
	return v.kind(w) == api.KClass && v.isBelow(w, v.builtin(exception))
}

// isException: is the word an instance of a class of exceptions?
func (v *vm) isException(w uint64) bool {
	return v.kind(w) == api.KInstance && v.isExceptionClass(v.item(w, instClass))
}

// isBuiltinClass: is the class one of those that are there at first?
func (v *vm) isBuiltinClass(class uint64) bool { return v.num(class, classSerial) <= classes }

// makeClass does OClass.
func (v *vm) makeClass(name uint64, bases []uint64) {
	numbers := map[uint64]int{}
	var all []uint64
	var own []int
	number := func(w uint64) int {
		n, ok := numbers[w]
		if !ok {
			n = len(all)
			numbers[w] = n
			all = append(all, w)
		}
		return n
	}
	var lists [][]int
	seen := map[uint64]int{}
	for _, b := range bases {
		if v.kind(b) != api.KClass || seen[b] > 0 {
			v.fail(typeError)
		}
		seen[b] = 1
		var l []int
		for _, c := range v.order(b) {
			l = append(l, number(c))
		}
		lists = append(lists, l)
		own = append(own, number(b))
	}
	merged, ok := merge.Lists(append(lists, own))
	if !ok {
		v.fail(typeError)
	}
	if len(merged)+1 > api.MaxOrder {
		v.fail(runtimeError)
	}
	var behind []uint64
	for _, n := range merged {
		behind = append(behind, all[n])
	}
	v.answer(v.newClass(name, behind))
}

// newInstance makes an instance, with the attribute args, if its class is one of exceptions.
func (v *vm) newInstance(class uint64, args []uint64) uint64 {
	serial := v.newSerial()
	attrs := uint64(none)
	if v.isExceptionClass(class) {
		attrs = v.newTable(api.KDict)
		v.putKey(attrs, v.builtin(builtins+sArgs), v.tuple(args))
	}
	return v.object(api.KInstance, class, serial, attrs)
}

// newException is a new instance of a class of exceptions, with empty args.
func (v *vm) newException(class uint64) uint64 { return v.newInstance(class, nil) }

// attrIn is what a table of attributes has of a name; the table may be none.
func (v *vm) attrIn(attrs, name uint64) (uint64, bool) {
	if attrs == none {
		return 0, false
	}
	return v.find(attrs, name)
}

// classAttr is a class's attribute, by its order.
func (v *vm) classAttr(class, name uint64) (uint64, bool) {
	for _, c := range v.order(class) {
		if w, ok := v.attrIn(v.item(c, classAttrs), name); ok {
			return w, true
		}
	}
	return 0, false
}

// special is the function of an instance's special name, if it has one.
func (v *vm) special(w uint64, name int) (uint64, bool) {
	if v.kind(w) != api.KInstance {
		return 0, false
	}
	f, ok := v.classAttr(v.item(w, instClass), v.builtin(builtins+name))
	return f, ok && v.kind(f) == api.KFunc
}

// methodOf is the number of a method of a builtin kind, or 0.
func methodOf(kind int, name string) int {
	switch {
	case kind == api.KList && name == "append":
		return mAppend
	case kind == api.KList && name == "pop":
		return mPop
	case kind == api.KDict && name == "get":
		return mGet
	case kind == api.KDict && name == "keys":
		return mKeys
	case kind == api.KSet && name == "add":
		return mAdd
	case kind == api.KSet && name == "discard":
		return mDiscard
	case kind == api.KStr && name == "join":
		return mJoin
	}
	return 0
}

// attr does OAttr.
func (v *vm) attr(a uint64, k int) {
	name := v.name(k)
	switch kind := v.kind(a); kind {
	case api.KInstance:
		w, ok := v.attrIn(v.item(a, instAttrs), name)
		if !ok {
			if w, ok = v.classAttr(v.item(a, instClass), name); ok && v.kind(w) == api.KFunc {
				w = v.object(api.KMethod, a, w)
			}
		}
		if ok {
			v.answer(w)
			return
		}
	case api.KClass:
		if w, ok := v.classAttr(a, name); ok {
			v.answer(w)
			return
		}
	default:
		if m := methodOf(kind, v.fn().Names[k]); m > 0 {
			v.answer(v.object(api.KMethod, a, small(m)))
			return
		}
	}
	v.fail(attributeError)
}

// ownAttrs is which item of an object has the table of its own attributes; an exception, if they can't be set.
func (v *vm) ownAttrs(a uint64) int {
	switch v.kind(a) {
	case api.KInstance:
		return instAttrs
	case api.KClass:
		if v.isBuiltinClass(a) {
			v.fail(typeError)
		}
		return classAttrs
	}
	v.fail(attributeError)
	return 0
}

// setAttr does OSetAttr.
func (v *vm) setAttr(a, value uint64, k int) {
	at := v.ownAttrs(a)
	attrs := v.item(a, at)
	if attrs == none {
		attrs = v.newTable(api.KDict)
		v.putKey(attrs, v.name(k), value)
		v.setItem(a, at, attrs)
	} else {
		v.putKey(attrs, v.name(k), value)
	}
	v.at++
}

// delAttr does ODelAttr.
func (v *vm) delAttr(a uint64, k int) {
	attrs := v.item(a, v.ownAttrs(a))
	if attrs == none {
		v.fail(attributeError)
	}
	v.drop(attrs, v.name(k), attributeError)
	v.at++
}

// drop takes a key out of a table; an exception of that class, if it isn't there.
func (v *vm) drop(t, key uint64, class int) {
	ok, err := table.Drop(&v.mem, t, key)
	v.must(err)
	if !ok {
		v.fail(class)
	}
}
