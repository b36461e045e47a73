package show

import (
	"scree/api"
	"scree/node"
)

// level is how closely an expression holds together: each case makes it one more.
func level(n api.Node) int {
	bin := func(ops ...int) bool {
		for _, op := range ops {
			if n.Kind == api.NBin && n.Op == op {
				return true
			}
		}
		return false
	}
	l := 0
	switch k := n.Kind; {
	default:
		l++
		fallthrough
	case k == api.NCall || k == api.NAttr || k == api.NIndex || k == api.NSlice:
		l++
		fallthrough
	case bin(api.Pow):
		l++
		fallthrough
	case k == api.NUn:
		l++
		fallthrough
	case bin(api.Mul, api.Div, api.Floor, api.Mod):
		l++
		fallthrough
	case bin(api.Add, api.Sub):
		l++
		fallthrough
	case k == api.NCompare:
		l++
		fallthrough
	case k == api.NNot:
		l++
		fallthrough
	case k == api.NAnd:
		l++
		fallthrough
	case k == api.NOr:
		l++
	case k == api.NCond || k == api.NLambda:
	}
	return l
}

// binary is the symbol of an operator of two.
func binary(op int) string {
	return pick(op, "", "+", "-", "*", "/", "//", "%", "**")
}

// pick is the text of that number, if there is one.
func pick(i int, texts ...string) string {
	if i < 0 || i >= len(texts) {
		return ""
	}
	return texts[i]
}

// expr puts an expression, in parentheses if its level is below the one that is asked.
func (p *printer) expr(n api.Node, asked int) {
	if p.full() {
		return
	}
	if level(n) < asked {
		p.put("(")
		p.bare(n)
		p.put(")")
		return
	}
	p.bare(n)
}

func (p *printer) bare(n api.Node) {
	switch n.Kind {
	case api.NInt, api.NFloat, api.NName:
		p.put(n.Text)
	case api.NStr:
		p.quote(n.Text)
	case api.NNone:
		p.put("None")
	case api.NTrue:
		p.put("True")
	case api.NFalse:
		p.put("False")
	case api.NTuple, api.NList, api.NSet, api.NDict, api.NListFor, api.NSetFor, api.NDictFor:
		p.display(n)
	case api.NCall, api.NAttr, api.NIndex, api.NSlice:
		p.primary(n)
	case api.NYield:
		p.word("yield", n)
	case api.NLambda:
		p.put("lambda")
		for i, k := range node.Kid(n, 0).Kids {
			p.put(pick(min(i, 1), " ", ", "))
			p.expr(k, 0)
		}
		p.put(": ")
		p.expr(node.Kid(n, 1), 0)
	default:
		p.operators(n)
	}
}

func (p *printer) operators(n api.Node) {
	switch n.Kind {
	case api.NCond:
		p.expr(node.Kid(n, 1), 1)
		p.put(" if ")
		p.expr(node.Kid(n, 0), 1)
		p.put(" else ")
		p.expr(node.Kid(n, 2), 0)
	case api.NOr:
		p.two(n, "or", 1, 2)
	case api.NAnd:
		p.two(n, "and", 2, 3)
	case api.NNot:
		p.put("not ")
		p.expr(node.Kid(n, 0), 3)
	case api.NCompare:
		p.expr(node.Kid(n, 0), 5)
		for i := 1; i < len(n.Kids); i++ {
			p.put(" ", pick(n.Kids[i].Op, "", "==", "!=", "<", "<=", ">", ">=", "in", "not in", "is", "is not"), " ")
			p.expr(node.Kid(n.Kids[i], 0), 5)
		}
	case api.NUn:
		p.put(pick(n.Op, "", "-", "+"))
		p.expr(node.Kid(n, 0), 7)
	case api.NBin:
		switch level(n) {
		case 8:
			p.two(n, "**", 9, 7)
		case 6:
			p.two(n, binary(n.Op), 6, 7)
		default:
			p.two(n, binary(n.Op), 5, 6)
		}
	}
}

// two puts an operator between two kids.
func (p *printer) two(n api.Node, op string, left, right int) {
	p.expr(node.Kid(n, 0), left)
	p.put(" ", op, " ")
	p.expr(node.Kid(n, 1), right)
}

func (p *printer) primary(n api.Node) {
	first := node.Kid(n, 0)
	if n.Kind == api.NAttr && (first.Kind == api.NInt || first.Kind == api.NFloat) {
		p.put("(", first.Text, ")")
	} else {
		p.expr(first, 9)
	}
	switch n.Kind {
	case api.NAttr:
		p.put(".", n.Text)
	case api.NCall:
		p.put("(")
		if len(n.Kids) > 0 {
			p.list(n.Kids[1:])
		}
		p.put(")")
	case api.NIndex:
		p.put("[")
		p.expr(node.Kid(n, 1), 0)
		p.put("]")
	case api.NSlice:
		p.put("[")
		p.part(node.Kid(n, 1))
		p.put(":")
		p.part(node.Kid(n, 2))
		p.put("]")
	}
}

// part puts a part of a slice, if it is there.
func (p *printer) part(n api.Node) {
	if n.Kind != api.NMissing {
		p.expr(n, 0)
	}
}

// list puts expressions with commas.
func (p *printer) list(kids []api.Node) {
	for i, k := range kids {
		if i > 0 {
			p.put(", ")
		}
		p.expr(k, 0)
	}
}

func (p *printer) display(n api.Node) {
	brackets := "[]"
	switch n.Kind {
	case api.NTuple:
		brackets = "()"
	case api.NSet, api.NDict, api.NSetFor, api.NDictFor:
		brackets = "{}"
	}
	p.put(brackets[:1])
	switch n.Kind {
	case api.NDict:
		for i := 0; i < len(n.Kids); i += 2 {
			if i > 0 {
				p.put(", ")
			}
			p.pair(n, i)
		}
	case api.NDictFor:
		p.pair(n, 0)
		p.clauses(n, 2)
	case api.NListFor, api.NSetFor:
		p.expr(node.Kid(n, 0), 0)
		p.clauses(n, 1)
	default:
		p.list(n.Kids)
		if n.Kind == api.NTuple && len(n.Kids) == 1 {
			p.put(",")
		}
	}
	p.put(brackets[1:])
}

// pair puts the key and the value from the kid i on.
func (p *printer) pair(n api.Node, i int) {
	p.expr(node.Kid(n, i), 0)
	p.put(": ")
	p.expr(node.Kid(n, i+1), 0)
}

// clauses puts the parts of a comprehension from the kid i on.
func (p *printer) clauses(n api.Node, i int) {
	for ; i < len(n.Kids); i++ {
		k := n.Kids[i]
		if k.Kind == api.NWhen {
			p.put(" if ")
			p.expr(node.Kid(k, 0), 1)
			continue
		}
		p.put(" for ")
		p.expr(node.Kid(k, 0), 9)
		p.put(" in ")
		p.expr(node.Kid(k, 1), 1)
	}
}

// quote puts a string between ".
func (p *printer) quote(s string) {
	const hex = "0123456789abcdef"
	p.put("\"")
	for i := range len(s) {
		switch b := s[i]; {
		case b == '\n':
			p.put("\\n")
		case b == '\t':
			p.put("\\t")
		case b == '\\' || b == '"':
			p.put("\\", s[i:i+1])
		case b < ' ':
			p.put("\\x", hex[b>>4:b>>4+1], hex[b&15:b&15+1])
		default:
			p.put(s[i : i+1])
		}
	}
	p.put("\"")
}
