// Package node looks at nodes of trees of any shape: what layers 6, 7 and 9 all ask of them.
package node

import "scree/api"

// Kid is the kid of that number, or a node without anything: so a tree that lacks it needs no case of its own.
func Kid(n api.Node, i int) api.Node {
	if i < 0 || i >= len(n.Kids) {
		return api.Node{}
	}
	return n.Kids[i]
}

// EachTarget hands on the texts of the names that are assigned to in a place.
func EachTarget(place api.Node, use func(text string)) {
	switch place.Kind {
	case api.NName:
		use(place.Text)
	case api.NTuple, api.NList:
		for _, k := range place.Kids {
			EachTarget(k, use)
		}
	}
}
