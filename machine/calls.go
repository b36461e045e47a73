package machine

import (
	"scree/api"
	"scree/deep"
	"scree/frame"
	"scree/word"
)

// What is done with what a frame answers.
const (
	plainly   = iota // it is the answer
	asTruth          // its truth is
	asUntruth        // the opposite of its truth is
	dropped          // there is no answer
	made             // it has to be None; Extra is the answer
	asLength         // it has to be a length
	asText           // it has to be a string
	asIter           // it has to be something that goes on
	asNext           // it is the next item of an ONext
	itemOf           // a generator's frame: ONext waits
	nextOf           // a generator's frame: the builtin next waits
)

// call does OCall: it calls a value.
func (v *vm) call(f uint64, args []uint64) {
	if len(args) > api.MaxLen {
		v.fail(overflowError)
	}
	switch v.kind(f) {
	case api.KFunc:
		v.invoke(f, args, plainly, none)
	case api.KMethod:
		self, what := v.item(f, methodSelf), v.item(f, methodWhat)
		if n, err := word.Num(what); err == api.OK {
			v.method(n, self, args)
			return
		}
		v.invoke(what, with(self, args), plainly, none)
	case api.KBuiltin:
		v.callBuiltin(v.num(f, builtinNumber), args)
	case api.KClass:
		v.instantiate(f, args)
	default:
		if g, ok := v.special(f, sCall); ok {
			v.invoke(g, with(f, args), plainly, none)
			return
		}
		v.fail(typeError)
	}
}

// with are the arguments with self ahead.
func with(self uint64, args []uint64) []uint64 { return append([]uint64{self}, args...) }

// instantiate calls a class.
func (v *vm) instantiate(class uint64, args []uint64) {
	inst := v.newInstance(class, args)
	if f, ok := v.special(inst, sInit); ok {
		v.invoke(f, with(inst, args), made, inst)
		return
	}
	if len(args) > 0 && !v.isExceptionClass(class) {
		v.fail(typeError)
	}
	v.answer(inst)
}

// invoke calls a function; mode and extra say what is done with what it answers.
func (v *vm) invoke(f uint64, args []uint64, mode int, extra uint64) {
	number := v.num(f, funcNumber)
	g := &v.code.Funcs[number]
	if len(args) != g.Params {
		v.fail(typeError)
	}
	if g.Gen {
		w := v.newFrame(f, g.Regs, args)
		gen := v.object(api.KGen, w, small(genFresh))
		frame.SetField(&v.mem, w, frame.Gen, gen)
		v.finish(mode, extra, gen)
		return
	}
	v.roomForFrame()
	v.fuel()
	w := v.newFrame(f, g.Regs, args)
	frame.SetField(&v.mem, w, frame.Extra, extra)
	v.enter(w, number, 0, mode)
}

// roomForFrame: may there be one more frame?
func (v *vm) roomForFrame() {
	if v.depth >= api.MaxFrames {
		v.fail(runtimeError)
	}
}

// newFrame is a frame of a function with its arguments.
func (v *vm) newFrame(f uint64, regs int, args []uint64) uint64 {
	w, err := frame.New(&v.mem, regs)
	v.must(err)
	frame.SetField(&v.mem, w, frame.Fn, f)
	for r, arg := range args {
		frame.SetReg(&v.mem, w, r, arg)
	}
	return w
}

// enter makes a frame run, from an instruction on. Nothing can fail any more.
func (v *vm) enter(w uint64, number, at, mode int) {
	frame.SetField(&v.mem, w, frame.Back, v.frame)
	frame.SetField(&v.mem, w, frame.Mode, small(mode))
	v.setField(frame.Pc, small(v.at+1))
	v.frame, v.number, v.at = w, number, at
	v.depth++
}

// leave makes the frame run that called, at the instruction that called; false, if there is none. It answers what that one does with what is answered.
func (v *vm) leave() (mode int, extra uint64, ok bool) {
	back := v.field(frame.Back)
	if back == none {
		return 0, 0, false
	}
	mode, _ = word.Num(v.field(frame.Mode))
	extra = v.field(frame.Extra)
	v.frame = back
	v.number = v.numberOf(back)
	pc, _ := word.Num(v.field(frame.Pc))
	v.at = pc - 1
	v.depth--
	return mode, extra, true
}

// finish does with an answer what the instruction that called wants.
func (v *vm) finish(mode int, extra, w uint64) {
	switch mode {
	case asTruth:
		w = truthWord(v.truth(w))
	case asUntruth:
		w = truthWord(!v.truth(w))
	case dropped:
		v.at++
		return
	case made:
		v.check(w == none)
		w = extra
	case asLength:
		v.check(isWhole(v.kind(w)) && !v.isNegative(w))
	case asText:
		v.check(v.kind(w) == api.KStr)
	case asIter:
		v.check(v.goesOn(w))
	}
	v.answer(w)
}

// check raises TypeError, if it isn't so.
func (v *vm) check(ok bool) {
	if !ok {
		v.fail(typeError)
	}
}

// isNegative: is an int or bool below 0?
func (v *vm) isNegative(w uint64) bool { return v.take(w).Int.Neg }

// returned does OReturn.
func (v *vm) returned(w uint64) {
	gen := v.field(frame.Gen)
	mode, extra, ok := v.leave()
	switch {
	case !ok:
		v.end = api.EndOK
	case gen != none:
		v.soon(func() { v.finishGen(gen) })
		v.noMore(mode)
	default:
		v.finish(mode, extra, w)
	}
}

// finishGen makes a generator a finished one.
func (v *vm) finishGen(gen uint64) {
	v.setItem(gen, genFrame, none)
	v.setItem(gen, genState, small(genFinished))
}

// noMore tells what waits for a generator's next item that there is none.
func (v *vm) noMore(mode int) {
	if mode != itemOf {
		v.fail(stopIteration)
	}
	v.goTo(v.ins().T)
}

// resume goes on with a generator.
func (v *vm) resume(gen uint64, mode int) {
	state := v.num(gen, genState)
	switch state {
	case genRunning:
		v.fail(valueError)
	case genFinished:
		v.noMore(mode)
		return
	}
	v.roomForFrame()
	w := v.item(gen, genFrame)
	pc, _ := frame.Field(v.mem, w, frame.Pc)
	at, _ := word.Num(pc)
	number := v.numberOf(w)
	if state == genSuspended {
		frame.SetReg(&v.mem, w, v.code.Funcs[number].Ins[at-1].D, none)
	}
	v.setItem(gen, genState, small(genRunning))
	v.enter(w, number, at, mode)
}

// yielded does OYield. A frame that is suspended holds on to nothing that called it.
func (v *vm) yielded(w uint64) {
	gen := v.field(frame.Gen)
	v.setItem(gen, genState, small(genSuspended))
	v.setField(frame.Pc, small(v.at+1))
	f := v.frame
	v.leave()
	frame.SetField(&v.mem, f, frame.Back, none)
	v.answer(w)
}

// raise raises an exception at the instruction.
func (v *vm) raise(e uint64) {
	for {
		for _, r := range v.fn().Regions {
			if r.From <= v.at && v.at < r.To {
				v.setReg(r.D, e)
				v.goTo(r.Target)
				return
			}
		}
		if gen := v.field(frame.Gen); gen != none {
			v.finishGen(gen)
		}
		mode, _, ok := v.leave()
		if !ok {
			v.endWith(e)
			return
		}
		if mode == asNext && v.isBelow(v.item(e, instClass), v.builtin(stopIteration)) {
			v.goTo(v.ins().T)
			return
		}
	}
}

// endWith ends the run with an exception.
func (v *vm) endWith(e uint64) {
	v.end = api.EndRaise
	v.class, _ = deep.Text(v.mem, v.item(v.item(e, instClass), className))
	v.text, _ = v.exceptionText(e)
}

// raised does ORaise.
func (v *vm) raised(a uint64) {
	if v.isExceptionClass(a) {
		a = v.newException(a)
	}
	v.check(v.isException(a))
	v.raise(a)
}

// match does OMatch.
func (v *vm) match(a, b uint64) {
	v.check(v.isException(a))
	wanted := []uint64{b}
	if v.kind(b) == api.KTuple {
		wanted = v.items(b)
	}
	for _, w := range wanted {
		v.check(v.isExceptionClass(w))
	}
	is := false
	for _, w := range wanted {
		is = is || v.isBelow(v.item(a, instClass), w)
	}
	v.answer(truthWord(is))
}
