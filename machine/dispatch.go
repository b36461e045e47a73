package machine

import (
	"scree/api"
	"scree/frame"
	"scree/object"
	"scree/table"
)

// operands are what the registers that an instruction reads hold.
type operands struct {
	a, b uint64
	l    []uint64
}

// do does the instruction. First, of all: NameError, if a register that it reads is unbound.
func (v *vm) do() {
	i := v.ins()
	u := v.uses[i.Op]
	var o operands
	if u.a {
		o.a = v.reg(i.A)
	}
	if u.b {
		o.b = v.reg(i.B)
	}
	if u.l {
		o.l = make([]uint64, len(i.L))
		for k, r := range i.L {
			o.l[k] = v.reg(r)
		}
	}
	switch i.Op {
	case api.ONop, api.OLine, api.OLit, api.OConst, api.OMove, api.OUnset, api.OJump, api.OIf, api.OUnless, api.ONot, api.OBuiltin:
		v.doSimple(i, o)
	case api.OGetG, api.OSetG, api.ODelG, api.OCell, api.OGetC, api.OSetC, api.OClear, api.OFree:
		v.doName(i, o)
	case api.OBin, api.OUn, api.OCmp, api.OIndex, api.OSetIndex, api.ODelIndex, api.OSlice, api.OAttr, api.OSetAttr, api.ODelAttr:
		v.doValue(i, o)
	case api.OList, api.OTuple, api.OSet, api.ODict, api.OAppend, api.OAdd, api.OUnpack, api.OFunc, api.OClass:
		v.doContainer(i, o)
	default:
		v.doControl(i, o)
	}
}

func (v *vm) doSimple(i *api.Ins, o operands) {
	switch i.Op {
	case api.ONop:
		v.at++
	case api.OLine:
		v.fuel()
		if v.number == 0 {
			v.line = i.K
		}
		v.at++
	case api.OLit:
		v.answer([]uint64{none, no, yes}[i.K])
	case api.OConst:
		v.answer(v.constOf(i.K))
	case api.OMove:
		v.answer(o.a)
	case api.OUnset:
		v.answer(unbound)
	case api.OJump:
		v.goTo(i.T)
	case api.OIf, api.OUnless:
		if v.truth(o.a) == (i.Op == api.OIf) {
			v.goTo(i.T)
		} else {
			v.at++
		}
	case api.ONot:
		v.answer(truthWord(!v.truth(o.a)))
	case api.OBuiltin:
		v.answer(v.builtin(i.K))
	}
}

func (v *vm) doName(i *api.Ins, o operands) {
	switch i.Op {
	case api.OGetG:
		w, ok := v.find(v.globals, v.name(i.K))
		if !ok {
			n, known := v.byName[v.fn().Names[i.K]]
			if !known {
				v.fail(nameError)
			}
			w = v.builtin(n)
		}
		v.answer(w)
	case api.OSetG:
		v.putKey(v.globals, v.name(i.K), o.a)
		v.at++
	case api.ODelG:
		v.drop(v.globals, v.name(i.K), nameError)
		v.at++
	case api.OCell:
		v.answer(v.object(api.KCell, unbound))
	case api.OFree:
		v.answer(v.item(v.field(frame.Fn), funcCells+i.K))
	default:
		v.doCell(i, o)
	}
}

func (v *vm) doCell(i *api.Ins, o operands) {
	v.check(v.kind(o.a) == api.KCell)
	switch i.Op {
	case api.OGetC:
		w := v.item(o.a, cellValue)
		if w == unbound {
			v.fail(nameError)
		}
		v.answer(w)
	case api.OSetC:
		v.setItem(o.a, cellValue, o.b)
		v.at++
	case api.OClear:
		v.setItem(o.a, cellValue, unbound)
		v.at++
	}
}

func (v *vm) doValue(i *api.Ins, o operands) {
	switch i.Op {
	case api.OBin:
		v.binary(i.K, o.a, o.b)
	case api.OUn:
		v.answer(v.unary(i.K, o.a))
	case api.OCmp:
		v.compare(i.K, o.a, o.b)
	case api.OIndex:
		v.index(o.a, o.b)
	case api.OSetIndex:
		v.setIndex(o.a, o.b, o.l[0])
	case api.ODelIndex:
		v.delIndex(o.a, o.b)
	case api.OSlice:
		v.slice(o.a, o.l[0], o.l[1])
	case api.OAttr:
		v.attr(o.a, i.K)
	case api.OSetAttr:
		v.setAttr(o.a, o.b, i.K)
	case api.ODelAttr:
		v.delAttr(o.a, i.K)
	}
}

func (v *vm) doContainer(i *api.Ins, o operands) {
	switch i.Op {
	case api.OList:
		v.answer(v.list(o.l))
	case api.OTuple:
		v.answer(v.tuple(o.l))
	case api.OSet:
		v.answer(v.setOf(o.l))
	case api.ODict:
		v.answer(v.dictOf(o.l))
	case api.OAppend:
		v.check(v.kind(o.a) == api.KList)
		v.must(object.Append(&v.mem, o.a, o.b))
		v.at++
	case api.OAdd:
		v.check(v.kind(o.a) == api.KSet)
		v.must(table.Put(&v.mem, o.a, o.b, none))
		v.at++
	case api.OUnpack:
		v.unpack(o.a, i.L)
	case api.OFunc:
		v.makeFunc(i.K, o.l)
	case api.OClass:
		v.makeClass(v.name(i.K), o.l)
	}
}

func (v *vm) doControl(i *api.Ins, o operands) {
	switch i.Op {
	case api.OCall:
		v.call(o.a, o.l)
	case api.OIter:
		v.iter(o.a)
	case api.ONext:
		v.fuel()
		v.next(o.a, itemOf)
	case api.OYield:
		v.yielded(o.a)
	case api.OReturn:
		v.returned(o.a)
	case api.ORaise:
		v.raised(o.a)
	case api.OMatch:
		v.match(o.a, o.b)
	}
}

// makeFunc makes a function with its cells.
func (v *vm) makeFunc(number int, cells []uint64) {
	for _, c := range cells {
		v.check(v.kind(c) == api.KCell)
	}
	words := []uint64{small(number), v.newSerial(), v.putText(v.code.Funcs[number].Name)}
	v.answer(v.object(api.KFunc, append(words, cells...)...))
}

// setOf is a new set of these keys.
func (v *vm) setOf(keys []uint64) uint64 {
	t := v.newTable(api.KSet)
	for _, k := range keys {
		v.putKey(t, k, none)
	}
	return t
}

// dictOf is a new dict of these keys and values.
func (v *vm) dictOf(pairs []uint64) uint64 {
	t := v.newTable(api.KDict)
	for i := 0; i < len(pairs); i += 2 {
		v.putKey(t, pairs[i], pairs[i+1])
	}
	return t
}

// unpack puts the items of a list, tuple or string into registers.
func (v *vm) unpack(a uint64, into []int) {
	v.check(v.isRow(v.kind(a)))
	if v.rowLength(a) != len(into) {
		v.fail(valueError)
	}
	items := v.row(a)
	for k, r := range into {
		v.setReg(r, items[k])
	}
	v.at++
}
