package machine

import (
	"scree/api"
	"scree/deep"
	"scree/object"
	"scree/plain"
	"scree/table"
	"scree/word"
)

// manyArgs are how many arguments a builtin takes, at least and at most.
func manyArgs(n int) (int, int) {
	switch n {
	case bPrint:
		return 0, api.MaxLen
	case bInput, mPop, mKeys:
		return 0, 0
	case bRange:
		return 1, 3
	case bStr, bInt, bFloat, bBool, bList, bTuple, bDict, bSet:
		return 0, 1
	case bIsinstance, bMin, bMax:
		return 2, 2
	}
	return 1, 1
}

func (v *vm) checkArgs(n int, args []uint64) {
	least, most := manyArgs(n)
	v.check(len(args) >= least && len(args) <= most)
}

// callBuiltin calls a builtin that is no class.
func (v *vm) callBuiltin(n int, args []uint64) {
	v.checkArgs(n, args)
	if len(args) == 0 {
		v.answer(v.withoutArgs(n))
		return
	}
	a := args[0]
	switch n {
	case bPrint:
		v.print(args)
		v.answer(none)
	case bLen:
		if f, ok := v.special(a, sLen); ok {
			v.invoke(f, args, asLength, none)
			return
		}
		v.answer(v.length(a))
	case bStr:
		if f, ok := v.special(a, sStr); ok {
			v.invoke(f, args, asText, none)
			return
		}
		text, err := v.tell(a)
		v.must(err)
		v.answer(v.putText(text))
	case bIter:
		v.iter(a)
	case bNext:
		v.next(a, nextOf)
	case bIsinstance:
		v.answer(truthWord(v.isInstance(a, args[1], 1, map[spot]int{})))
	case bMin, bMax:
		v.answer(v.leastOrMost(n, a, args[1]))
	case bList, bTuple, bDict, bSet, bRange:
		v.answer(v.container(n, args))
	default:
		v.answer(v.simple(n, a))
	}
}

// withoutArgs is what a builtin answers that is called with nothing.
func (v *vm) withoutArgs(n int) uint64 {
	switch n {
	case bPrint:
		v.print(nil)
	case bInput:
		return v.readLine()
	case bStr:
		return v.putText("")
	case bInt:
		return small(0)
	case bFloat:
		return v.put(api.Value{Kind: api.KFloat})
	case bBool:
		return no
	case bList:
		return v.list(nil)
	case bTuple:
		return v.tuple(nil)
	case bDict:
		return v.newTable(api.KDict)
	case bSet:
		return v.newTable(api.KSet)
	}
	return none
}

func (v *vm) container(n int, args []uint64) uint64 {
	switch n {
	case bList:
		return v.list(v.itemsLeft(args[0]))
	case bTuple:
		return v.tuple(v.itemsLeft(args[0]))
	case bSet:
		return v.setOf(v.itemsLeft(args[0]))
	case bDict:
		v.check(v.kind(args[0]) == api.KDict)
		return v.copyDict(args[0])
	}
	return v.makeRange(args)
}

// simple is a builtin of one value that calls nothing.
func (v *vm) simple(n int, a uint64) uint64 {
	switch n {
	case bRepr:
		text, err := deep.Quote(v.mem, a)
		v.must(err)
		return v.putText(text)
	case bInt, bFloat:
		v.check(isPlain(v.kind(a)))
		convert := plain.ToInt
		if n == bFloat {
			convert = plain.ToFloat
		}
		x, err := convert(v.take(a))
		v.must(err)
		return v.put(x)
	case bBool:
		return truthWord(v.truth(a))
	case bHash:
		h, err := object.Hash(v.mem, a)
		v.must(err)
		return small(h)
	case bAbs:
		return v.absolute(a)
	case bChr:
		v.check(isWhole(v.kind(a)))
		b, err := word.Num(v.putInt(v.wholeOf(a)))
		if err != api.OK || b < 0 || b > 255 {
			v.fail(valueError)
		}
		return v.putText(string([]byte{byte(b)}))
	}
	text := v.take(a).Text
	v.check(v.kind(a) == api.KStr && len(text) == 1)
	return small(int(text[0]))
}

// absolute is a number without its sign.
func (v *vm) absolute(a uint64) uint64 {
	kind := v.kind(a)
	v.check(kind == api.KFloat || isWhole(kind))
	x, err := plain.Un(api.Pos, v.take(a))
	v.must(err)
	if x.Kind == api.KFloat && x.Bits>>63 == 1 || x.Int.Neg {
		x, err = plain.Un(api.Neg, x)
		v.must(err)
	}
	return v.put(x)
}

// tell is what print and str tell of a value.
func (v *vm) tell(w uint64) (string, api.Errno) {
	if v.isException(w) {
		return v.exceptionText(w)
	}
	return deep.Text(v.mem, w)
}

// exceptionText tells an exception by its attribute args.
func (v *vm) exceptionText(e uint64) (string, api.Errno) {
	args, ok := v.attrIn(v.item(e, instAttrs), v.builtin(builtins+sArgs))
	if !ok || v.kind(args) != api.KTuple {
		return "", api.OK
	}
	switch items := v.items(args); len(items) {
	case 0:
		return "", api.OK
	case 1:
		return deep.Text(v.mem, items[0])
	}
	return deep.Quote(v.mem, args)
}

// print prints a line.
func (v *vm) print(args []uint64) {
	var line []byte
	for i, w := range args {
		if i > 0 {
			line = append(line, ' ')
		}
		text, err := v.tell(w)
		v.must(err)
		line = append(line, text...)
		if len(line) > api.MaxLen {
			v.fail(overflowError)
		}
	}
	if v.outBytes+len(line)+1 > api.MaxOut {
		v.fail(overflowError)
	}
	v.outBytes += len(line) + 1
	v.out = append(v.out, string(line))
}

// readLine is the next line of input.
func (v *vm) readLine() uint64 {
	if v.input >= len(v.config.Inputs) {
		v.fail(eofError)
	}
	text := v.config.Inputs[v.input]
	if len(text) > api.MaxLen {
		v.fail(overflowError)
	}
	w := v.putText(text)
	v.input++
	return w
}

// length is the builtin len of what has no special one.
func (v *vm) length(a uint64) uint64 {
	switch kind := v.kind(a); {
	case v.isRow(kind):
		return small(v.rowLength(a))
	case kind == api.KDict || kind == api.KSet:
		n, _ := table.Len(v.mem, a)
		return small(n)
	case kind == api.KRange:
		return v.putInt(v.bounds(a).length())
	}
	v.fail(typeError)
	return none
}

// leastOrMost is the builtin min or max.
func (v *vm) leastOrMost(n int, first, second uint64) uint64 {
	c, ok, err := deep.Order(v.mem, second, first)
	v.must(err)
	if ok && (n == bMin && c < 0 || n == bMax && c > 0) {
		return second
	}
	return first
}

// spot is a tuple of classes, and how deep it lies.
type spot struct {
	w     uint64
	depth int
}

// isInstance is the builtin isinstance. Tuples that were gone through once at a depth aren't again.
func (v *vm) isInstance(a, class uint64, depth int, known map[spot]int) bool {
	if depth > api.MaxNest {
		v.fail(runtimeError)
	}
	switch v.kind(class) {
	case api.KClass:
		return v.kind(a) == api.KInstance && v.isBelow(v.item(a, instClass), class)
	case api.KBuiltin:
		return v.isOfBuiltin(v.kind(a), v.num(class, builtinNumber))
	case api.KTuple:
		if known[spot{class, depth}] > 0 {
			return false
		}
		for _, w := range v.items(class) {
			if v.isInstance(a, w, depth+1, known) {
				return true
			}
		}
		known[spot{class, depth}] = 1
		return false
	}
	v.fail(typeError)
	return false
}

// isOfBuiltin: is a value of this kind of the kind for which a builtin stands?
func (v *vm) isOfBuiltin(kind, n int) bool {
	switch n {
	case bInt:
		return isWhole(kind)
	case bFloat:
		return kind == api.KFloat
	case bStr:
		return kind == api.KStr
	case bBool:
		return kind == api.KBool
	case bList:
		return kind == api.KList
	case bTuple:
		return kind == api.KTuple
	case bDict:
		return kind == api.KDict
	case bSet:
		return kind == api.KSet
	case bRange:
		return kind == api.KRange
	}
	v.fail(typeError)
	return false
}

// method calls a method of a builtin kind.
func (v *vm) method(n int, self uint64, args []uint64) {
	v.checkArgs(n, args)
	v.answer(v.methodAnswer(n, self, args))
}

func (v *vm) methodAnswer(n int, self uint64, args []uint64) uint64 {
	switch n {
	case mAppend:
		v.must(object.Append(&v.mem, self, args[0]))
	case mPop:
		w, err := object.Pop(&v.mem, self)
		if err != api.OK {
			v.fail(indexError)
		}
		return w
	case mGet:
		if w, ok := v.find(self, args[0]); ok {
			return w
		}
	case mKeys:
		return v.list(v.keys(self))
	case mAdd:
		v.putKey(self, args[0], none)
	case mDiscard:
		_, err := table.Drop(&v.mem, self, args[0])
		v.must(err)
	case mJoin:
		return v.join(v.take(self).Text, args[0])
	}
	return none
}

// join is a list's or tuple's strings, with another string between.
func (v *vm) join(between string, list uint64) uint64 {
	kind := v.kind(list)
	v.check(kind == api.KList || kind == api.KTuple)
	var text []byte
	for i, w := range v.items(list) {
		v.check(v.kind(w) == api.KStr)
		if i > 0 {
			text = append(text, between...)
		}
		text = append(text, v.take(w).Text...)
		if len(text) > api.MaxLen {
			v.fail(overflowError)
		}
	}
	return v.putText(string(text))
}
