package machine

import (
	"scree/api"
	"scree/arena"
	"scree/deep"
	"scree/frame"
	"scree/object"
	"scree/plain"
	"scree/real"
	"scree/roots"
	"scree/slide"
	"scree/table"
	"scree/whole"
	"scree/word"
)

// The items of objects that this layer lays.
const (
	builtinNumber = 0

	funcNumber = 0
	funcSerial = 1
	funcName   = 2
	funcCells  = 3

	className   = 0
	classSerial = 1
	classOrder  = 2
	classAttrs  = 3

	instClass  = 0
	instSerial = 1
	instAttrs  = 2

	methodSelf = 0
	methodWhat = 1

	iterOver = 0
	iterNext = 1 // the number of the next item; of a range the next item itself

	genFrame = 0
	genState = 1

	cellValue = 0

	listCount = 0
	listBlock = 1
)

// The states of a generator.
const (
	genFresh = iota
	genSuspended
	genRunning
	genFinished
)

// small is the word of a number that is known to be small.
func small(n int) uint64 {
	w, _ := word.Small(n)
	return w
}

// kind is the kind of a value: of a word that is none -1.
func (v *vm) kind(w uint64) int {
	switch word.Kind(w) {
	case word.Number:
		return api.KInt
	case word.Constant:
		switch w {
		case none:
			return api.KNone
		case unbound:
			return -1
		}
		return api.KBool
	case word.Address:
		a, _ := word.At(w)
		k, _ := arena.Kind(v.mem, a)
		return k
	}
	return -1
}

// isPlain: is a value of this kind a plain one?
func isPlain(kind int) bool { return kind >= api.KNone && kind <= api.KStr }

func isWhole(kind int) bool { return kind == api.KInt || kind == api.KBool }

// item is an item of the object to which the word leads.
func (v *vm) item(w uint64, i int) uint64 {
	a, _ := word.At(w)
	out, _ := arena.Get(v.mem, a, i)
	return out
}

func (v *vm) setItem(w uint64, i int, to uint64) {
	a, _ := word.At(w)
	arena.Set(&v.mem, a, i, to)
}

// num is an item that is a small number.
func (v *vm) num(w uint64, i int) int {
	n, _ := word.Num(v.item(w, i))
	return n
}

// object takes a new object of these words.
func (v *vm) object(kind int, words ...uint64) uint64 {
	a, err := arena.Alloc(&v.mem, kind, len(words), 0)
	if err != api.OK {
		panic(full{})
	}
	for i, w := range words {
		arena.Set(&v.mem, a, i, w)
	}
	w, _ := word.Addr(a)
	return w
}

// take is the plain value of a word that is known to be one.
func (v *vm) take(w uint64) api.Value {
	x, _ := object.Take(v.mem, w)
	return x
}

// put is the word of a plain value.
func (v *vm) put(x api.Value) uint64 {
	w, err := object.Put(&v.mem, x)
	v.must(err)
	return w
}

func (v *vm) putText(s string) uint64 { return v.put(api.Value{Kind: api.KStr, Text: s}) }

func (v *vm) putInt(x api.Big) uint64 { return v.put(api.Value{Kind: api.KInt, Int: x}) }

func (v *vm) list(items []uint64) uint64 {
	w, err := object.List(&v.mem, items)
	v.must(err)
	return w
}

func (v *vm) tuple(items []uint64) uint64 {
	w, err := object.Tuple(&v.mem, items)
	v.must(err)
	return w
}

// items are those of a list or tuple.
func (v *vm) items(w uint64) []uint64 {
	out, _ := object.Items(v.mem, w)
	return out
}

func (v *vm) newTable(kind int) uint64 {
	w, err := table.New(&v.mem, kind)
	v.must(err)
	return w
}

func (v *vm) putKey(t, key, value uint64) { v.must(table.Put(&v.mem, t, key, value)) }

func (v *vm) find(t, key uint64) (uint64, bool) {
	w, ok, err := table.Find(v.mem, t, key)
	v.must(err)
	return w, ok
}

func (v *vm) truth(w uint64) bool { return deep.Truth(v.mem, w) }

// same: are both the same?
func (v *vm) same(a, b uint64) bool {
	if isPlain(v.kind(a)) && isPlain(v.kind(b)) {
		return plain.Same(v.take(a), v.take(b))
	}
	return a == b
}

func (v *vm) equal(a, b uint64) bool {
	same, err := object.Equal(v.mem, a, b)
	v.must(err)
	return same
}

// newSerial is the next serial.
func (v *vm) newSerial() uint64 {
	v.serial++
	return small(v.serial)
}

// setUp lays what is there at first.
func (v *vm) setUp() {
	v.home = v.block(builtins + names)
	for n := range builtins {
		v.byName[deep.Builtin(n)] = n
		if n < firstClass || n > lastClass {
			v.setItem(v.home, n, v.object(api.KBuiltin, small(n)))
			continue
		}
		var behind []uint64
		if n > firstClass {
			behind = []uint64{v.item(v.home, firstClass)}
		}
		v.setItem(v.home, n, v.newClass(v.putText(deep.Builtin(n)), behind))
	}
	for n := range names {
		v.setItem(v.home, builtins+n, v.putText(ownName(n)))
	}
	v.globals = v.newTable(api.KDict)
	v.fillPool()
	w, err := frame.New(&v.mem, v.fn().Regs)
	v.must(err)
	v.frame, v.depth = w, 1
}

// block takes a block of so many words.
func (v *vm) block(n int) uint64 {
	a, err := arena.Alloc(&v.mem, api.KBlock, n, 0)
	if err != api.OK {
		panic(full{})
	}
	w, _ := word.Addr(a)
	return w
}

// fillPool lays the names and constants of all functions.
func (v *vm) fillPool() {
	total := 0
	for _, f := range v.code.Funcs {
		v.first = append(v.first, total)
		total += len(f.Names) + len(f.Consts)
	}
	v.pool = v.block(total)
	at := 0
	for _, f := range v.code.Funcs {
		for _, name := range f.Names {
			v.setItem(v.pool, at, v.putText(name))
			at++
		}
		for _, k := range f.Consts {
			v.setItem(v.pool, at, v.put(constant(k)))
			at++
		}
	}
}

// constant is the value of a constant in form.
func constant(k api.Const) api.Value {
	switch k.Kind {
	case api.CInt:
		x, _ := whole.Parse(k.Text)
		return api.Value{Kind: api.KInt, Int: x}
	case api.CFloat:
		b, _ := real.Parse(k.Text)
		return api.Value{Kind: api.KFloat, Bits: b}
	}
	return api.Value{Kind: api.KStr, Text: k.Text}
}

// name is the word of the running function's name k.
func (v *vm) name(k int) uint64 { return v.item(v.pool, v.first[v.number]+k) }

func (v *vm) constOf(k int) uint64 { return v.name(len(v.fn().Names) + k) }

// builtin is the word of a builtin.
func (v *vm) builtin(n int) uint64 { return v.item(v.home, n) }

// collect makes a collection: registers outside of the maps become unbound, and what can't be reached goes.
func (v *vm) collect() {
	for a := 1; a < v.mem.Top; {
		tagged, raw, err := arena.Size(v.mem, a)
		if err != api.OK {
			break
		}
		if k, _ := arena.Kind(v.mem, a); k == api.KFrame {
			w, _ := word.Addr(a)
			v.clearDead(w)
		}
		a += 2 + tagged + raw
	}
	// The collector needn't look at words that aren't in use.
	used := api.Mem{W: v.mem.W[:v.mem.Top], Top: v.mem.Top}
	turned, err := slide.Collect(&used, []uint64{v.home, v.globals, v.pool, v.frame})
	if err != api.OK {
		return
	}
	v.mem.Top = used.Top
	v.home, v.globals, v.pool, v.frame = turned[0], turned[1], turned[2], turned[3]
}

// clearDead makes the registers of a frame unbound that aren't read any more. A frame that hasn't begun keeps all of them.
func (v *vm) clearDead(f uint64) {
	number, at := v.number, v.at
	if f != v.frame {
		number = v.numberOf(f)
		pc, _ := frame.Field(v.mem, f, frame.Pc)
		next, _ := word.Num(pc)
		if next == 0 {
			return
		}
		at = next - 1
	}
	if v.maps[number] == nil {
		v.maps[number], _ = roots.Maps(v.code.Funcs[number])
	}
	frame.Clear(&v.mem, f, v.maps[number][at])
}

// numberOf is the number of a frame's function.
func (v *vm) numberOf(f uint64) int {
	fn, _ := frame.Field(v.mem, f, frame.Fn)
	if fn == none {
		return 0
	}
	return v.num(fn, funcNumber)
}
