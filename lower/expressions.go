package lower

import (
	"scree/api"
	"scree/node"
)

// expr answers a register with the expression's value.
func (m *maker) expr(n api.Node) int {
	switch n.Kind {
	case api.NInt:
		return m.constantOf(api.CInt, n.Text)
	case api.NFloat:
		return m.constantOf(api.CFloat, n.Text)
	case api.NStr:
		return m.constantOf(api.CStr, n.Text)
	case api.NFalse:
		return m.literal(noes)
	case api.NTrue:
		return m.literal(yes)
	case api.NName:
		return m.load(n.Text)
	case api.NBin:
		return m.two(api.OBin, n.Op, node.Kid(n, 0), node.Kid(n, 1))
	case api.NUn:
		return m.one(api.OUn, n.Op, node.Kid(n, 0))
	case api.NNot:
		return m.one(api.ONot, 0, node.Kid(n, 0))
	case api.NAnd, api.NOr:
		return m.andOr(n)
	case api.NCompare:
		return m.compare(n)
	case api.NCall:
		a := m.expr(node.Kid(n, 0))
		l := m.exprs(n.Kids[min(1, len(n.Kids)):])
		return m.made(api.Ins{Op: api.OCall, A: a, L: l})
	case api.NAttr:
		return m.attr(m.expr(node.Kid(n, 0)), n.Text)
	case api.NIndex:
		return m.two(api.OIndex, 0, node.Kid(n, 0), node.Kid(n, 1))
	case api.NSlice:
		return m.slice(n)
	case api.NCond:
		return m.cond(n)
	case api.NLambda:
		return m.makeFunc(n)
	case api.NList:
		return m.made(api.Ins{Op: api.OList, L: m.exprs(n.Kids)})
	case api.NTuple:
		return m.made(api.Ins{Op: api.OTuple, L: m.exprs(n.Kids)})
	case api.NSet:
		return m.made(api.Ins{Op: api.OSet, L: m.exprs(n.Kids)})
	case api.NDict:
		return m.made(api.Ins{Op: api.ODict, L: m.exprs(n.Kids)})
	case api.NListFor, api.NSetFor, api.NDictFor:
		return m.comprehension(n)
	case api.NYield:
		return m.made(api.Ins{Op: api.OYield, A: m.maybe(n)})
	}
	return m.literal(none)
}

// made lays an instruction that writes a new register.
func (m *maker) made(i api.Ins) int {
	i.D = m.fresh()
	m.emit(i)
	return i.D
}

func (m *maker) constantOf(kind int, text string) int {
	t := m.fresh()
	m.constant(t, kind, text)
	return t
}

func (m *maker) one(op, k int, n api.Node) int {
	a := m.expr(n)
	return m.made(api.Ins{Op: op, A: a, K: k})
}

func (m *maker) two(op, k int, left, right api.Node) int {
	a := m.expr(left)
	b := m.expr(right)
	return m.made(api.Ins{Op: op, A: a, B: b, K: k})
}

func (m *maker) attr(a int, text string) int {
	return m.made(api.Ins{Op: api.OAttr, A: a, K: m.name(text)})
}

// exprs are the registers of all.
func (m *maker) exprs(kids []api.Node) []int {
	var out []int
	for _, k := range kids {
		out = append(out, m.expr(k))
	}
	return out
}

// maybe is the first kid's register, or that of None.
func (m *maker) maybe(n api.Node) int {
	if len(n.Kids) == 0 {
		return m.literal(none)
	}
	return m.expr(n.Kids[0])
}

func (m *maker) andOr(n api.Node) int {
	var end label
	t := m.fresh()
	m.emit(api.Ins{Op: api.OMove, D: t, A: m.expr(node.Kid(n, 0))})
	if n.Kind == api.NAnd {
		m.unless(t, &end)
	} else {
		m.onTrue(t, &end)
	}
	m.emit(api.Ins{Op: api.OMove, D: t, A: m.expr(node.Kid(n, 1))})
	m.set(&end)
	return t
}

func (m *maker) compare(n api.Node) int {
	if len(n.Kids) == 2 {
		return m.two(api.OCmp, n.Kids[1].Op, n.Kids[0], node.Kid(n.Kids[1], 0))
	}
	var end label
	t := m.fresh()
	a := m.expr(node.Kid(n, 0))
	for i := 1; i < len(n.Kids); i++ {
		b := m.expr(node.Kid(n.Kids[i], 0))
		c := m.made(api.Ins{Op: api.OCmp, A: a, B: b, K: n.Kids[i].Op})
		m.emit(api.Ins{Op: api.OMove, D: t, A: c})
		if i < len(n.Kids)-1 {
			m.unless(t, &end)
		}
		a = b
	}
	m.set(&end)
	return t
}

func (m *maker) slice(n api.Node) int {
	a := m.expr(node.Kid(n, 0))
	// What isn't there is None, as a node of no value is.
	from := m.expr(node.Kid(n, 1))
	to := m.expr(node.Kid(n, 2))
	return m.made(api.Ins{Op: api.OSlice, A: a, L: []int{from, to}})
}

func (m *maker) cond(n api.Node) int {
	var other, end label
	t := m.fresh()
	m.unless(m.expr(node.Kid(n, 0)), &other)
	m.emit(api.Ins{Op: api.OMove, D: t, A: m.expr(node.Kid(n, 1))})
	m.always(&end)
	m.set(&other)
	m.emit(api.Ins{Op: api.OMove, D: t, A: m.expr(node.Kid(n, 2))})
	m.set(&end)
	return t
}

// makeFunc lays a function's code, and here the function with the cells that it takes.
func (m *maker) makeFunc(n api.Node) int {
	if n.Op >= len(m.scopes) {
		return m.literal(none)
	}
	m.function(n.Op, func(inner *maker) {
		if n.Kind == api.NLambda {
			inner.emit(api.Ins{Op: api.OReturn, A: inner.expr(node.Kid(n, 1))})
			return
		}
		inner.block(node.Kid(n, 1))
	})
	var cells []int
	for _, name := range m.scopes[n.Op].Frees {
		cells = append(cells, m.cellOf(name))
	}
	return m.made(api.Ins{Op: api.OFunc, K: n.Op, L: cells})
}

// hidden are the comprehension's own names, in the order of Locals, as registers.
func (m *maker) hidden(n api.Node) []int {
	own := map[string]int{}
	for _, k := range n.Kids {
		if k.Kind == api.NEach {
			node.EachTarget(node.Kid(k, 0), func(text string) { own[text] = 1 })
		}
	}
	var out []int
	s := m.scopes[m.number]
	for i, name := range s.Locals {
		if own[name] > 0 {
			out = append(out, len(s.Params)+i)
		}
	}
	return out
}

func (m *maker) comprehension(n api.Node) int {
	s := m.scopes[m.number]
	for _, r := range m.hidden(n) {
		op := api.OUnset
		if m.isCell(s.Locals[r-len(s.Params)]) {
			op = api.OCell
		}
		m.emit(api.Ins{Op: op, D: r})
	}
	first := 1
	op := api.OList
	switch n.Kind {
	case api.NSetFor:
		op = api.OSet
	case api.NDictFor:
		op, first = api.ODict, 2
	}
	t := m.made(api.Ins{Op: op})
	m.clauses(n, t, first, &label{})
	return t
}

// clauses lays the parts of a comprehension from the kid i on, each round all behind it; back is where the innermost loop round it jumps back.
func (m *maker) clauses(n api.Node, t, i int, back *label) {
	if i >= len(n.Kids) {
		m.innermost(n, t)
		return
	}
	k := n.Kids[i]
	if k.Kind == api.NWhen {
		m.unless(m.expr(node.Kid(k, 0)), back)
		m.clauses(n, t, i+1, back)
		return
	}
	var here, again, end label
	v := m.expr(node.Kid(k, 1))
	it := m.made(api.Ins{Op: api.OIter, A: v})
	m.set(&here)
	x := m.fresh()
	m.jump(api.Ins{Op: api.ONext, D: x, A: it}, &end)
	m.assign(node.Kid(k, 0), x)
	m.clauses(n, t, i+1, &again)
	m.set(&again)
	m.always(&here)
	m.set(&end)
}

// innermost adds to the container what a comprehension makes.
func (m *maker) innermost(n api.Node, t int) {
	a := m.expr(node.Kid(n, 0))
	switch n.Kind {
	case api.NDictFor:
		v := m.expr(node.Kid(n, 1))
		m.emit(api.Ins{Op: api.OSetIndex, A: t, B: a, L: []int{v}})
	case api.NSetFor:
		m.emit(api.Ins{Op: api.OAdd, A: t, B: a})
	default:
		m.emit(api.Ins{Op: api.OAppend, A: t, B: a})
	}
}
