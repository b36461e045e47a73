package parse

import "scree/api"

// atAtom: can the next token begin an atom?
func (p *parser) atAtom() bool {
	switch p.now().Kind {
	case api.TName, api.TInt, api.TFloat, api.TStr:
		return true
	}
	return p.isOne("(", "[", "{", "None", "True", "False")
}

// atExpr: can the next token begin an expression?
func (p *parser) atExpr() bool { return p.atAtom() || p.isOne("+", "-", "not", "lambda") }

// exprs = expr { , expr } [ , ]: a tuple, if there is a comma.
func (p *parser) exprs() api.Node { return p.behind(p.expr()) }

// behind goes on with exprs behind their first one.
func (p *parser) behind(first api.Node) api.Node {
	if !p.is(",") {
		return first
	}
	kids := []api.Node{first}
	for p.accept(",") {
		if !p.atExpr() {
			break
		}
		kids = append(kids, p.expr())
	}
	return over(api.NTuple, kids...)
}

// list = [ expr { , expr } [ , ] ] and the symbol that closes it.
func (p *parser) list(closing string) []api.Node {
	kids := []api.Node{}
	for p.atExpr() {
		kids = append(kids, p.expr())
		if !p.accept(",") {
			break
		}
	}
	p.need(closing)
	return kids
}

func (p *parser) expr() api.Node {
	if p.is("lambda") {
		line := p.take()
		params := p.params(line)
		p.need(":")
		return node(api.NLambda, line, params, p.expr())
	}
	n := p.or()
	if !p.accept("if") {
		return n
	}
	c := p.or()
	p.need("else")
	return node(api.NCond, n.Line, c, n, p.expr())
}

// row reads operands with operators of one level between them, from left to right.
func (p *parser) row(read func() api.Node, join func(left api.Node) (api.Node, bool)) api.Node {
	n := read()
	for count := 0; ; count++ {
		joined, ok := join(n)
		if !ok {
			return n
		}
		n = joined
		// A row as long as this is refused anyway: what lies below needn't be kept.
		if count > api.MaxDepth {
			p.deep = true
			n.Kids[0].Kids = nil
		}
	}
}

func (p *parser) or() api.Node {
	return p.row(p.and, func(left api.Node) (api.Node, bool) {
		if !p.accept("or") {
			return left, false
		}
		return over(api.NOr, left, p.and()), true
	})
}

func (p *parser) and() api.Node {
	return p.row(p.not, func(left api.Node) (api.Node, bool) {
		if !p.accept("and") {
			return left, false
		}
		return over(api.NAnd, left, p.not()), true
	})
}

func (p *parser) not() api.Node {
	if p.is("not") {
		return node(api.NNot, p.take(), p.not())
	}
	return p.compare()
}

func (p *parser) compare() api.Node {
	first := p.arith()
	kids := []api.Node{first}
	for {
		line := p.now().Line
		op := p.comparison()
		if op == 0 {
			break
		}
		kids = append(kids, withOp(op, node(api.NLink, line, p.arith())))
	}
	if len(kids) == 1 {
		return first
	}
	return over(api.NCompare, kids...)
}

// comparison takes the operator that is next; 0, if none is.
func (p *parser) comparison() int {
	op := p.opOf([]string{"<", ">", "==", ">=", "<=", "!=", "in", "is"}, []int{api.Lt, api.Gt, api.Eq, api.Ge, api.Le, api.Ne, api.In, api.Is})
	switch {
	case op > 0:
		p.at++
		if op == api.Is && p.accept("not") {
			return api.IsNot
		}
		return op
	case p.accept("not"):
		p.need("in")
		return api.NotIn
	}
	return 0
}

// bins joins a row by operators of two.
func (p *parser) bins(read func() api.Node, texts []string, ops []int) api.Node {
	return p.row(read, func(left api.Node) (api.Node, bool) {
		op := p.opOf(texts, ops)
		if op == 0 {
			return left, false
		}
		p.at++
		return withOp(op, over(api.NBin, left, read())), true
	})
}

func (p *parser) arith() api.Node {
	return p.bins(p.term, []string{"+", "-"}, []int{api.Add, api.Sub})
}

func (p *parser) term() api.Node {
	return p.bins(p.factor, []string{"*", "/", "//", "%"}, []int{api.Mul, api.Div, api.Floor, api.Mod})
}

func (p *parser) factor() api.Node {
	if op := p.opOf([]string{"-", "+"}, []int{api.Neg, api.Pos}); op > 0 {
		return withOp(op, node(api.NUn, p.take(), p.factor()))
	}
	n := p.primary()
	if !p.accept("**") {
		return n
	}
	return withOp(api.Pow, over(api.NBin, n, p.factor()))
}

func (p *parser) primary() api.Node {
	return p.row(p.atom, func(left api.Node) (api.Node, bool) {
		switch {
		case p.accept("."):
			name := p.needKind(api.TName).Text
			return withText(name, over(api.NAttr, left)), true
		case p.accept("("):
			return over(api.NCall, append([]api.Node{left}, p.list(")")...)...), true
		case p.accept("["):
			return p.index(left), true
		}
		return left, false
	})
}

// index = exprs | [ expr ] : [ expr ], behind the bracket.
func (p *parser) index(left api.Node) api.Node {
	missing := node(api.NMissing, left.Line)
	from, to := missing, missing
	if !p.is(":") {
		from = p.expr()
		if !p.is(":") {
			from = p.behind(from)
			p.need("]")
			return over(api.NIndex, left, from)
		}
	}
	p.need(":")
	if p.atExpr() {
		to = p.expr()
	}
	p.need("]")
	return over(api.NSlice, left, from, to)
}

func (p *parser) atom() api.Node {
	t := p.now()
	switch t.Kind {
	case api.TName:
		return p.leaf(api.NName)
	case api.TInt:
		return p.leaf(api.NInt)
	case api.TFloat:
		return p.leaf(api.NFloat)
	case api.TStr:
		return p.leaf(api.NStr)
	}
	switch {
	case p.is("None"):
		return node(api.NNone, p.take())
	case p.is("True"):
		return node(api.NTrue, p.take())
	case p.is("False"):
		return node(api.NFalse, p.take())
	case p.is("("):
		return p.parens()
	case p.is("["):
		return p.square()
	case p.is("{"):
		return p.braces()
	}
	p.fail()
	return api.Node{}
}

// leaf is a node of the next token's text.
func (p *parser) leaf(kind int) api.Node {
	text := p.now().Text
	return withText(text, node(kind, p.take()))
}

func (p *parser) parens() api.Node {
	line := p.take()
	if p.accept(")") {
		return node(api.NTuple, line)
	}
	n := p.exprs()
	p.need(")")
	return n
}

func (p *parser) square() api.Node {
	line := p.take()
	if p.accept("]") {
		return node(api.NList, line)
	}
	first := p.expr()
	if p.is("for") {
		return p.clauses(api.NListFor, line, "]", first)
	}
	return node(api.NList, line, p.more(first, "]")...)
}

// more is the first item and those behind it, up to the symbol that closes.
func (p *parser) more(first api.Node, closing string) []api.Node {
	kids := []api.Node{first}
	if !p.accept(",") {
		p.need(closing)
		return kids
	}
	return append(kids, p.list(closing)...)
}

func (p *parser) braces() api.Node {
	line := p.take()
	if p.accept("}") {
		return node(api.NDict, line)
	}
	first := p.expr()
	switch {
	case p.accept(":"):
		return p.pairs(line, first)
	case p.is("for"):
		return p.clauses(api.NSetFor, line, "}", first)
	}
	return node(api.NSet, line, p.more(first, "}")...)
}

// pairs is a dict, behind its first colon.
func (p *parser) pairs(line int, key api.Node) api.Node {
	kids := []api.Node{key, p.expr()}
	if p.is("for") {
		return p.clauses(api.NDictFor, line, "}", kids...)
	}
	for p.accept(",") && p.atExpr() {
		k := p.expr()
		p.need(":")
		kids = append(kids, k, p.expr())
	}
	p.need("}")
	return node(api.NDict, line, kids...)
}

// clauses = for places in or { for places in or | if or }, and the symbol that closes.
func (p *parser) clauses(kind, line int, closing string, kids ...api.Node) api.Node {
	n := node(kind, line, append([]api.Node{}, kids...)...)
	for {
		switch {
		case p.is("for"):
			l := p.take()
			place := p.places()
			p.need("in")
			n.Kids = append(n.Kids, node(api.NEach, l, place, p.or()))
		case p.is("if"):
			n.Kids = append(n.Kids, node(api.NWhen, p.take(), p.or()))
		default:
			p.need(closing)
			return n
		}
	}
}
