package code

import (
	"scree/api"
	"scree/real"
	"scree/whole"
)

const builtins = 35 // how many builtins there are

// Where in a function something isn't right, if it is no instruction.
const (
	ahead  = -1
	behind = -2
)

// Check: is the code in form.
func Check(c api.Code) (int, int, api.Errno) {
	if len(c.Funcs) < 1 || len(c.Funcs) > api.MaxFuncs {
		return -1, -1, api.ErrForm
	}
	for n := range len(c.Funcs) {
		if at, ok := checkFunc(c, n); !ok {
			return n, at, api.ErrForm
		}
	}
	return 0, 0, api.OK
}

// checkFunc tells where the function n isn't right.
func checkFunc(c api.Code, n int) (int, bool) {
	f := c.Funcs[n]
	if !rightHead(f) || n == 0 && (f.Params != 0 || f.Frees != 0 || f.Gen) {
		return ahead, false
	}
	for at, i := range f.Ins {
		if !rightIns(c, f, i) {
			return at, false
		}
	}
	last := len(f.Ins) - 1
	if !does(f.Ins[last].Op, noNext) {
		return last, false
	}
	for _, r := range f.Regions {
		if !rightRegion(f, r) {
			return behind, false
		}
	}
	return 0, true
}

// rightHead: is all right that stands ahead of the instructions?
func rightHead(f api.Func) bool {
	if f.Regs < 0 || f.Regs > api.MaxRegs || f.Params < 0 || f.Params > f.Regs || f.Frees < 0 || f.Bound < 0 || len(f.Name) > api.MaxLen {
		return false
	}
	for _, name := range f.Names {
		if len(name) > api.MaxLen {
			return false
		}
	}
	for _, k := range f.Consts {
		if !rightConst(k) {
			return false
		}
	}
	return len(f.Ins) > 0
}

func rightConst(k api.Const) bool {
	digit := k.Text != "" && k.Text[0] >= '0' && k.Text[0] <= '9'
	switch k.Kind {
	case api.CInt:
		_, err := whole.Parse(k.Text)
		return digit && err == api.OK
	case api.CFloat:
		_, err := real.Parse(k.Text)
		return digit && err == api.OK
	case api.CStr:
		return len(k.Text) <= api.MaxLen
	}
	return false
}

func rightRegion(f api.Func, r api.Region) bool {
	return 0 <= r.From && r.From <= r.To && r.To <= len(f.Ins) && within(r.Target, len(f.Ins)) && within(r.D, f.Regs)
}

// within: is i from 0 to n - 1?
func within(i, n int) bool { return i >= 0 && i < n }

// field: is it a number below n where it is used, and 0 where it isn't?
func field(used bool, i, n int) bool {
	if used {
		return within(i, n)
	}
	return i == 0
}

// rightIns: is the instruction right in its function?
func rightIns(c api.Code, f api.Func, i api.Ins) bool {
	if !known(i.Op) || i.Op == api.OYield && !f.Gen {
		return false
	}
	return field(does(i.Op, writesD), i.D, f.Regs) && field(does(i.Op, readsA), i.A, f.Regs) && field(does(i.Op, readsB), i.B, f.Regs) &&
		field(does(i.Op, hasT), i.T, len(f.Ins)) && rightK(c, f, i) && rightL(c, f, i)
}

// rightK: is K within its bounds?
func rightK(c api.Code, f api.Func, i api.Ins) bool {
	switch i.Op {
	case api.OLine:
		return i.K >= 0
	case api.OLit:
		return within(i.K, 3)
	case api.OConst:
		return within(i.K, len(f.Consts))
	case api.OGetG, api.OSetG, api.ODelG, api.OAttr, api.OSetAttr, api.ODelAttr, api.OClass:
		return within(i.K, len(f.Names))
	case api.OFree:
		return within(i.K, f.Frees)
	case api.OBin:
		return i.K >= api.Add && i.K <= api.Pow
	case api.OUn:
		return i.K == api.Neg || i.K == api.Pos
	case api.OCmp:
		return i.K >= api.Eq && i.K <= api.IsNot
	case api.OFunc:
		return i.K != 0 && within(i.K, len(c.Funcs))
	case api.OBuiltin:
		return within(i.K, builtins)
	}
	return i.K == 0
}

// rightL: are there as many as the instruction wants, and registers all?
func rightL(c api.Code, f api.Func, i api.Ins) bool {
	n := len(i.L)
	switch i.Op {
	case api.OSetIndex:
		n -= 1
	case api.OSlice:
		n -= 2
	case api.ODict:
		n %= 2
	case api.OFunc:
		n -= c.Funcs[i.K].Frees
	case api.OCall, api.OList, api.OTuple, api.OSet, api.OUnpack, api.OClass:
		n = 0
	}
	if n != 0 {
		return false
	}
	for _, r := range i.L {
		if !within(r, f.Regs) {
			return false
		}
	}
	return true
}
