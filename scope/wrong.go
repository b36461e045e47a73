package scope

import (
	"scree/api"
	"scree/node"
)

// firstWrong is the line of the first node that can't stand where it does; true, if there is none.
func firstWrong(tree api.Node, funs []*fun) (int, bool) {
	line, ok := 0, true
	goThrough(tree, visitor{enter: func(n api.Node, at spot) {
		if ok && isWrong(n, at, funs) {
			line, ok = n.Line, false
		}
	}})
	return line, ok
}

// isWrong: can't the node stand here?
func isWrong(n api.Node, at spot, funs []*fun) bool {
	if at.statement && !isClassStatement(n) {
		return true
	}
	switch n.Kind {
	case api.NReturn, api.NYield:
		return at.f == 0
	case api.NBreak, api.NContinue:
		return !at.loop
	case api.NRaise:
		return len(n.Kids) == 0 && !at.handler
	case api.NParams:
		return hasTwice(n)
	case api.NGlobal:
		return anyName(n, func(name string) bool { return funs[at.f].params.has(name) || funs[at.f].outer.has(name) })
	case api.NNonlocal:
		return at.f == 0 || anyName(n, func(name string) bool { return funs[at.f].params.has(name) || lives(funs, at.f, name) <= 0 })
	}
	return false
}

func anyName(n api.Node, is func(name string) bool) bool {
	for _, k := range n.Kids {
		if is(k.Text) {
			return true
		}
	}
	return false
}

func hasTwice(n api.Node) bool {
	seen := newNames()
	return anyName(n, func(name string) bool {
		twice := seen.has(name)
		seen.add(name)
		return twice
	})
}

// isClassStatement: may it be a statement of a class's block?
func isClassStatement(n api.Node) bool {
	switch n.Kind {
	case api.NDef, api.NPass:
		return true
	case api.NExpr:
		return node.Kid(n, 0).Kind == api.NStr
	case api.NAssign:
		return len(n.Kids) == 2 && n.Kids[0].Kind == api.NName
	}
	return false
}
