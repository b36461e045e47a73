package scope

import (
	"strconv"

	"scree/api"
	"scree/node"
)

// isComprehension: does it bring hidden names?
func isComprehension(n api.Node) bool {
	return n.Kind == api.NListFor || n.Kind == api.NSetFor || n.Kind == api.NDictFor
}

// Rename: the tree with its comprehensions' names renamed.
func Rename(n api.Node) api.Node {
	count := 0
	var walk func(n api.Node) api.Node
	walk = func(n api.Node) api.Node {
		number := 0
		if isComprehension(n) {
			count++
			number = count
		}
		out := n
		out.Kids = make([]api.Node, len(n.Kids))
		for i, k := range n.Kids {
			out.Kids[i] = walk(k)
		}
		if number > 0 {
			hide(out, "."+strconv.Itoa(number))
		}
		return out
	}
	return walk(n)
}

// hide renames a comprehension's own names in it; those of the inner ones are renamed already.
func hide(n api.Node, suffix string) {
	own := map[string]int{}
	for _, k := range n.Kids {
		if k.Kind == api.NEach {
			node.EachTarget(node.Kid(k, 0), func(text string) { own[text] = 1 })
		}
	}
	first := true
	for i := range n.Kids {
		k := &n.Kids[i]
		if k.Kind == api.NEach && first {
			// What the first one goes through is reckoned ahead of all names.
			first = false
			if len(k.Kids) > 0 {
				mark(&k.Kids[0], own, suffix)
			}
			continue
		}
		mark(k, own, suffix)
	}
}

// mark gives the names of own their suffix in a tree, but not where they are parameters.
func mark(n *api.Node, own map[string]int, suffix string) {
	if len(own) == 0 {
		return
	}
	if n.Kind == api.NName && own[n.Text] > 0 {
		n.Text += suffix
	}
	if n.Kind == api.NLambda || n.Kind == api.NDef {
		left := map[string]int{}
		for name := range own {
			left[name] = 1
		}
		for _, p := range node.Kid(*n, 0).Kids {
			delete(left, p.Text)
		}
		own = left
	}
	for i := range n.Kids {
		mark(&n.Kids[i], own, suffix)
	}
}
