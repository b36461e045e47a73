package parse

import "scree/api"

// file = { stmt } END
func (p *parser) file() api.Node {
	kids := []api.Node{}
	for p.now().Kind != api.TEnd {
		kids = append(kids, p.stmt())
	}
	line := p.now().Line
	if len(kids) > 0 {
		line = kids[0].Line
	}
	return node(api.NBlock, line, kids...)
}

func (p *parser) stmt() api.Node {
	if p.now().Kind == api.TWord {
		switch p.now().Text {
		case "if":
			return p.ifs()
		case "while":
			return node(api.NWhile, p.take(), p.expr(), p.block())
		case "for":
			return p.fors()
		case "def":
			return p.def()
		case "class":
			return p.class()
		case "try":
			return p.try()
		case "with":
			line := p.take()
			e := p.expr()
			name := p.asName()
			return withText(name, node(api.NWith, line, e, p.block()))
		}
	}
	s := p.simple()
	p.needKind(api.TLine)
	return s
}

// block is what stands behind a colon, which it takes too.
func (p *parser) block() api.Node {
	p.need(":")
	kids := []api.Node{}
	if p.now().Kind != api.TLine {
		kids = append(kids, p.simple())
		p.needKind(api.TLine)
		return over(api.NBlock, kids...)
	}
	p.at++
	p.needKind(api.TIn)
	for {
		kids = append(kids, p.stmt())
		if p.now().Kind == api.TOut {
			p.at++
			return over(api.NBlock, kids...)
		}
	}
}

// asName is the name behind as, if as is next.
func (p *parser) asName() string {
	if !p.accept("as") {
		return ""
	}
	return p.needKind(api.TName).Text
}

// ifs reads an if with all its elifs first, and then puts them into one another from the last one on.
func (p *parser) ifs() api.Node {
	all := []api.Node{node(api.NIf, p.take(), p.expr(), p.block())}
	for p.is("elif") {
		all = append(all, node(api.NIf, p.take(), p.expr(), p.block()))
	}
	if p.accept("else") {
		last := &all[len(all)-1]
		last.Kids = append(last.Kids, p.block())
	}
	if len(all) > api.MaxDepth {
		p.deep = true
		return all[0]
	}
	out := all[len(all)-1]
	for i := len(all) - 2; i >= 0; i-- {
		all[i].Kids = append(all[i].Kids, node(api.NBlock, out.Line, out))
		out = all[i]
	}
	return out
}

func (p *parser) fors() api.Node {
	line := p.take()
	place := p.places()
	p.need("in")
	return node(api.NFor, line, place, p.exprs(), p.block())
}

// places = primary { , primary } [ , ]; each has to be a place to assign to.
func (p *parser) places() api.Node {
	kids := []api.Node{p.onePlace()}
	comma := false
	for p.accept(",") {
		comma = true
		if !p.atAtom() {
			break
		}
		kids = append(kids, p.onePlace())
	}
	if !comma {
		return kids[0]
	}
	return over(api.NTuple, kids...)
}

func (p *parser) onePlace() api.Node {
	n := p.primary()
	if !isTarget(n) {
		p.fail()
	}
	return n
}

func (p *parser) def() api.Node {
	line := p.take()
	name := p.needKind(api.TName).Text
	p.need("(")
	params := p.params(line)
	p.need(")")
	return withText(name, node(api.NDef, line, params, p.block()))
}

// params = name { , name } [ , ], if there are any.
func (p *parser) params(line int) api.Node {
	kids := []api.Node{}
	for p.now().Kind == api.TName {
		kids = append(kids, p.name())
		if !p.accept(",") {
			break
		}
	}
	return node(api.NParams, line, kids...)
}

func (p *parser) name() api.Node {
	t := p.needKind(api.TName)
	return withText(t.Text, node(api.NName, t.Line))
}

// names = name { , name }
func (p *parser) names(kind int) api.Node {
	line := p.take()
	kids := []api.Node{p.name()}
	for p.accept(",") {
		kids = append(kids, p.name())
	}
	return node(kind, line, kids...)
}

func (p *parser) class() api.Node {
	line := p.take()
	name := p.needKind(api.TName).Text
	bases := node(api.NBases, line)
	if p.accept("(") {
		bases.Kids = p.list(")")
	}
	return withText(name, node(api.NClass, line, bases, p.block()))
}

func (p *parser) try() api.Node {
	n := node(api.NTry, p.take(), p.block())
	open := true
	for open && p.is("except") {
		var h api.Node
		h, open = p.handler()
		n.Kids = append(n.Kids, h)
	}
	switch {
	case p.is("finally"):
		n.Kids = append(n.Kids, node(api.NFinally, p.take(), p.block()))
	case len(n.Kids) == 1 || p.is("except"):
		p.fail()
	}
	return n
}

// handler tells, too, whether another one may follow.
func (p *parser) handler() (api.Node, bool) {
	n := node(api.NHandler, p.take())
	if p.is(":") {
		n.Kids = append(n.Kids, p.block())
		return n, false
	}
	n.Kids = append(n.Kids, p.expr())
	n.Text = p.asName()
	n.Kids = append(n.Kids, p.block())
	return n, true
}

// simple is a statement of one line, without its end.
func (p *parser) simple() api.Node {
	if p.now().Kind != api.TWord {
		return p.assignment()
	}
	switch p.now().Text {
	case "pass":
		return node(api.NPass, p.take())
	case "break":
		return node(api.NBreak, p.take())
	case "continue":
		return node(api.NContinue, p.take())
	case "return":
		return p.maybe(api.NReturn, p.exprs)
	case "raise":
		return p.maybe(api.NRaise, p.expr)
	case "yield":
		return over(api.NExpr, p.maybe(api.NYield, p.exprs))
	case "global":
		return p.names(api.NGlobal)
	case "nonlocal":
		return p.names(api.NNonlocal)
	case "assert":
		return node(api.NAssert, p.take(), p.expr())
	case "del":
		return p.del()
	}
	return p.assignment()
}

// maybe is a node of a word and an expression behind it, if there is one.
func (p *parser) maybe(kind int, read func() api.Node) api.Node {
	n := node(kind, p.take())
	if p.atExpr() {
		n.Kids = append(n.Kids, read())
	}
	return n
}

func (p *parser) del() api.Node {
	line := p.take()
	n := p.primary()
	if !isPlace(n) {
		p.fail()
	}
	return node(api.NDel, line, n)
}

// assignment = exprs, a row of =, or an augment.
func (p *parser) assignment() api.Node {
	first := p.exprs()
	if op := p.augment(); op > 0 {
		if !isPlace(first) {
			p.fail()
		}
		p.at++
		return withOp(op, over(api.NAug, first, p.exprs()))
	}
	if !p.is("=") {
		return over(api.NExpr, first)
	}
	kids := []api.Node{first}
	for p.is("=") {
		last := kids[len(kids)-1]
		if !isTarget(last) {
			p.fail()
		}
		p.at++
		if p.is("yield") {
			kids = append(kids, p.maybe(api.NYield, p.exprs))
			break
		}
		kids = append(kids, p.exprs())
	}
	return over(api.NAssign, kids...)
}

// augment is the operator of the augment that is next, or 0.
func (p *parser) augment() int {
	return p.opOf([]string{"+=", "-=", "*=", "/=", "//=", "%=", "**="}, []int{api.Add, api.Sub, api.Mul, api.Div, api.Floor, api.Mod, api.Pow})
}

// opOf is the operator whose text is next, or 0.
func (p *parser) opOf(texts []string, ops []int) int {
	for i, s := range texts {
		if p.is(s) {
			return ops[i]
		}
	}
	return 0
}
