package lower

import (
	"scree/api"
	"scree/node"
	"scree/scope"
)

// block lays a block's statements; a function's block ends with a return of None.
func (m *maker) block(n api.Node) {
	m.statements(n)
	m.emit(api.Ins{Op: api.OReturn, A: m.literal(none)})
}

func (m *maker) statements(n api.Node) {
	for _, k := range n.Kids {
		m.line(k)
		m.statement(k)
	}
}

// line lays the beginning of a statement.
func (m *maker) line(n api.Node) { m.emit(api.Ins{Op: api.OLine, K: max(0, n.Line)}) }

func (m *maker) statement(n api.Node) {
	switch n.Kind {
	case api.NExpr:
		m.expr(node.Kid(n, 0))
	case api.NAssign:
		v := m.expr(node.Kid(n, len(n.Kids)-1))
		for i := 0; i < len(n.Kids)-1; i++ {
			m.assign(n.Kids[i], v)
		}
	case api.NAug:
		m.augment(n)
	case api.NIf:
		m.ifs(n)
	case api.NWhile:
		m.while(n)
	case api.NFor:
		m.fors(n)
	case api.NDef:
		m.store(n.Text, m.makeFunc(n))
	case api.NClass:
		m.class(n)
	case api.NReturn:
		m.leave(byReturn, m.maybe(n))
	case api.NBreak:
		m.leave(byBreak, 0)
	case api.NContinue:
		m.leave(byContinue, 0)
	case api.NRaise:
		m.raise(n)
	case api.NAssert:
		var end label
		m.onTrue(m.expr(node.Kid(n, 0)), &end)
		m.emit(api.Ins{Op: api.ORaise, A: m.made(api.Ins{Op: api.OBuiltin, K: assert})})
		m.set(&end)
	case api.NDel:
		m.del(node.Kid(n, 0))
	case api.NTry:
		m.try(n)
	case api.NWith:
		m.with(n)
	}
}

// assign gives the value of v to a place.
func (m *maker) assign(place api.Node, v int) {
	switch place.Kind {
	case api.NName:
		m.store(place.Text, v)
	case api.NAttr:
		a := m.expr(node.Kid(place, 0))
		m.emit(api.Ins{Op: api.OSetAttr, A: a, B: v, K: m.name(place.Text)})
	case api.NIndex:
		a := m.expr(node.Kid(place, 0))
		b := m.expr(node.Kid(place, 1))
		m.emit(api.Ins{Op: api.OSetIndex, A: a, B: b, L: []int{v}})
	case api.NTuple, api.NList:
		var parts []int
		for range place.Kids {
			parts = append(parts, m.fresh())
		}
		m.emit(api.Ins{Op: api.OUnpack, A: v, L: parts})
		for i, k := range place.Kids {
			m.assign(k, parts[i])
		}
	}
}

func (m *maker) augment(n api.Node) {
	place := node.Kid(n, 0)
	join := func(x int) int {
		v := m.expr(node.Kid(n, 1))
		return m.made(api.Ins{Op: api.OBin, A: x, B: v, K: n.Op})
	}
	switch place.Kind {
	case api.NName:
		m.store(place.Text, join(m.load(place.Text)))
	case api.NAttr:
		a := m.expr(node.Kid(place, 0))
		t := join(m.attr(a, place.Text))
		m.emit(api.Ins{Op: api.OSetAttr, A: a, B: t, K: m.name(place.Text)})
	case api.NIndex:
		a := m.expr(node.Kid(place, 0))
		b := m.expr(node.Kid(place, 1))
		t := join(m.made(api.Ins{Op: api.OIndex, A: a, B: b}))
		m.emit(api.Ins{Op: api.OSetIndex, A: a, B: b, L: []int{t}})
	}
}

func (m *maker) ifs(n api.Node) {
	var other, end label
	m.unless(m.expr(node.Kid(n, 0)), &other)
	m.statements(node.Kid(n, 1))
	if len(n.Kids) > 2 {
		m.always(&end)
	}
	m.set(&other)
	if len(n.Kids) > 2 {
		m.statements(n.Kids[2])
	}
	m.set(&end)
}

func (m *maker) while(n api.Node) {
	var here, end label
	m.set(&here)
	m.unless(m.expr(node.Kid(n, 0)), &end)
	m.within(context{kind: isLoop, here: &here, end: &end}, func() { m.statements(node.Kid(n, 1)) })
	m.always(&here)
	m.set(&end)
}

func (m *maker) fors(n api.Node) {
	var here, end label
	v := m.expr(node.Kid(n, 1))
	it := m.made(api.Ins{Op: api.OIter, A: v})
	m.set(&here)
	x := m.fresh()
	m.jump(api.Ins{Op: api.ONext, D: x, A: it}, &end)
	m.assign(node.Kid(n, 0), x)
	m.within(context{kind: isLoop, here: &here, end: &end}, func() { m.statements(node.Kid(n, 2)) })
	m.always(&here)
	m.set(&end)
}

// cellOf is a register with the cell of a name that a function takes from here.
func (m *maker) cellOf(name string) int {
	if kind, at := scope.Find(m.scopes, m.number, name); kind == scope.Free {
		return m.captured(at)
	}
	return m.register(name)
}

func (m *maker) class(n api.Node) {
	bases := m.exprs(node.Kid(n, 0).Kids)
	t := m.made(api.Ins{Op: api.OClass, K: m.name(n.Text), L: bases})
	for _, k := range node.Kid(n, 1).Kids {
		m.line(k)
		switch k.Kind {
		case api.NDef:
			u := m.makeFunc(k)
			m.emit(api.Ins{Op: api.OSetAttr, A: t, B: u, K: m.name(k.Text)})
		case api.NAssign:
			u := m.expr(node.Kid(k, 1))
			m.emit(api.Ins{Op: api.OSetAttr, A: t, B: u, K: m.name(node.Kid(k, 0).Text)})
		}
	}
	m.store(n.Text, t)
}

func (m *maker) raise(n api.Node) {
	if len(n.Kids) > 0 {
		m.emit(api.Ins{Op: api.ORaise, A: m.expr(n.Kids[0])})
		return
	}
	for i := len(m.round) - 1; i >= 0; i-- {
		if m.round[i].kind == isHandler {
			m.emit(api.Ins{Op: api.ORaise, A: m.round[i].e})
			return
		}
	}
}

func (m *maker) del(place api.Node) {
	switch place.Kind {
	case api.NName:
		m.drop(place.Text)
	case api.NAttr:
		a := m.expr(node.Kid(place, 0))
		m.emit(api.Ins{Op: api.ODelAttr, A: a, K: m.name(place.Text)})
	case api.NIndex:
		a := m.expr(node.Kid(place, 0))
		b := m.expr(node.Kid(place, 1))
		m.emit(api.Ins{Op: api.ODelIndex, A: a, B: b})
	}
}

func (m *maker) try(n api.Node) {
	last := node.Kid(n, len(n.Kids)-1)
	if last.Kind != api.NFinally {
		m.handled(n)
		return
	}
	n.Kids = n.Kids[:len(n.Kids)-1]
	g := m.guarded(func() { m.handled(n) })
	m.lit(g.why, yes)
	m.set(&g.last)
	m.statements(node.Kid(last, 0))
	var exits, end label
	t := m.literal(none)
	c := m.made(api.Ins{Op: api.OCmp, A: g.why, B: t, K: api.Is})
	m.onTrue(c, &end)
	m.lit(t, yes)
	m.emit(api.Ins{Op: api.OCmp, D: c, A: g.why, B: t, K: api.Is})
	m.unless(c, &exits)
	m.emit(api.Ins{Op: api.ORaise, A: g.val})
	m.set(&exits)
	m.exits(g, t, c)
	m.set(&end)
}

// handled lays a try without its finally.
func (m *maker) handled(n api.Node) {
	if len(n.Kids) < 2 {
		m.statements(node.Kid(n, 0))
		return
	}
	var end label
	e := m.fresh()
	from := m.here()
	m.statements(n.Kids[0])
	m.out.Regions = append(m.out.Regions, api.Region{From: from, To: m.here(), Target: m.here() + 1, D: e})
	m.always(&end)
	for _, h := range n.Kids[1:] {
		m.handler(h, e, &end)
	}
	if len(n.Kids[len(n.Kids)-1].Kids) > 1 {
		m.emit(api.Ins{Op: api.ORaise, A: e})
	}
	m.set(&end)
}

func (m *maker) handler(h api.Node, e int, end *label) {
	var next label
	if len(h.Kids) > 1 {
		c := m.expr(h.Kids[0])
		m.unless(m.made(api.Ins{Op: api.OMatch, A: e, B: c}), &next)
	}
	if h.Text != "" {
		m.store(h.Text, e)
	}
	m.within(context{kind: isHandler, e: e}, func() { m.statements(node.Kid(h, len(h.Kids)-1)) })
	m.always(end)
	m.set(&next)
}

func (m *maker) with(n api.Node) {
	w := m.expr(node.Kid(n, 0))
	exit := m.attr(w, "__exit__")
	v := m.made(api.Ins{Op: api.OCall, A: m.attr(w, "__enter__")})
	if n.Text != "" {
		m.store(n.Text, v)
	}
	g := m.guarded(func() { m.statements(node.Kid(n, 1)) })
	var end label
	m.onTrue(m.made(api.Ins{Op: api.OCall, A: exit, L: []int{g.val}}), &end)
	m.emit(api.Ins{Op: api.ORaise, A: g.val})
	m.set(&g.last)
	m.made(api.Ins{Op: api.OCall, A: exit, L: []int{m.literal(none)}})
	t := m.literal(none)
	c := m.made(api.Ins{Op: api.OCmp, A: g.why, B: t, K: api.Is})
	m.onTrue(c, &end)
	m.exits(g, t, c)
	m.set(&end)
}
