package scope

import (
	"scree/api"
	"scree/node"
)

// spot is where a node stands.
type spot struct {
	f         int  // the function to which it belongs
	loop      bool // a loop of its function stands round it
	handler   bool // a handler of its function stands round it
	statement bool // it is a statement of a class's block
}

// visitor is what is done at a node: enter ahead of its kids; leave, if it isn't nil, behind a function's own nodes, with the function's number.
type visitor struct {
	enter func(n api.Node, at spot)
	leave func(f int, at spot)
}

// goThrough goes through a tree in its order, counting the functions.
func goThrough(tree api.Node, v visitor) {
	count := 0
	var walk func(n api.Node, at spot)
	walk = func(n api.Node, at spot) {
		v.enter(n, at)
		inside := at
		inside.statement = false
		switch n.Kind {
		case api.NDef, api.NLambda:
			count++
			inside = spot{f: count}
		case api.NWhile, api.NFor:
			inside.loop = true
		case api.NHandler:
			inside.handler = true
		}
		for i, k := range n.Kids {
			if n.Kind == api.NClass && i > 0 {
				walkClass(k, inside, v, walk)
				continue
			}
			walk(k, inside)
		}
		if inside.f != at.f && v.leave != nil {
			v.leave(inside.f, at)
		}
	}
	walk(tree, spot{})
}

// walkClass goes through a class's block.
func walkClass(block api.Node, at spot, v visitor, walk func(n api.Node, at spot)) {
	v.enter(block, at)
	at.statement = true
	for _, k := range block.Kids {
		walk(k, at)
	}
}

// collect finds the functions, and what each of them binds.
func collect(tree api.Node) []*fun {
	funs := []*fun{newFun("main", -1, api.Node{})}
	goThrough(tree, visitor{enter: func(n api.Node, at spot) {
		f := funs[at.f]
		eachBound(n, at, f.binds.add)
		switch n.Kind {
		case api.NDef:
			funs = append(funs, newFun(n.Text, at.f, node.Kid(n, 0)))
		case api.NLambda:
			funs = append(funs, newFun("lambda", at.f, node.Kid(n, 0)))
		case api.NYield:
			f.gen = true
		case api.NGlobal:
			for _, k := range n.Kids {
				f.global.add(k.Text)
			}
		case api.NNonlocal:
			for _, k := range n.Kids {
				f.outer.add(k.Text)
			}
		}
	}})
	return funs
}

// eachBound hands on the texts that the node binds, in their order.
func eachBound(n api.Node, at spot, use func(text string)) {
	switch n.Kind {
	case api.NAssign:
		for i := 0; i < len(n.Kids)-1 && !at.statement; i++ {
			node.EachTarget(n.Kids[i], use)
		}
	case api.NAug, api.NFor, api.NEach:
		node.EachTarget(node.Kid(n, 0), use)
	default:
		if text, ok := ownBound(n, at); ok {
			use(text)
		}
	}
}

// ownBound is the text that a node binds beside the places of assignments.
func ownBound(n api.Node, at spot) (string, bool) {
	switch n.Kind {
	case api.NDel:
		return node.Kid(n, 0).Text, node.Kid(n, 0).Kind == api.NName
	case api.NDef:
		return n.Text, !at.statement
	case api.NClass:
		return n.Text, true
	case api.NWith, api.NHandler:
		return n.Text, n.Text != ""
	}
	return "", false
}

// findFrees finds the names that functions take from those round them.
func findFrees(tree api.Node, funs []*fun) {
	named := func(f int, name string) {
		if !funs[f].owns(name) && !funs[f].global.has(name) && lives(funs, f, name) >= 0 {
			funs[f].frees.add(name)
		}
	}
	attributes := map[int]int{} // how many names are left that a class's assignment names as attributes, of a function
	goThrough(tree, visitor{
		enter: func(n api.Node, at spot) {
			switch {
			case n.Kind == api.NAssign && at.statement:
				attributes[at.f] = len(n.Kids) - 1
			case n.Kind == api.NName && attributes[at.f] > 0:
				attributes[at.f]--
			case n.Kind == api.NName:
				named(at.f, n.Text)
			case n.Kind != api.NDel:
				if text, ok := ownBound(n, at); ok {
					named(at.f, text)
				}
			}
		},
		leave: func(f int, at spot) {
			for _, name := range funs[f].frees.list {
				if !funs[at.f].owns(name) {
					funs[at.f].frees.add(name)
				}
			}
		},
	})
}
