package node

import (
	"strings"
	"testing"

	"scree/api"
)

func TestKid(t *testing.T) {
	n := api.Node{Kids: []api.Node{{Kind: 7}, {Kind: 8}}}
	for i, want := range map[int]int{-1: 0, 0: 7, 1: 8, 2: 0} {
		if Kid(n, i).Kind != want {
			t.Errorf("Kid(%d)", i)
		}
	}
}

func TestEachTarget(t *testing.T) {
	name := func(s string) api.Node { return api.Node{Kind: api.NName, Text: s} }
	attr := api.Node{Kind: api.NAttr, Text: "x", Kids: []api.Node{name("y")}}
	place := api.Node{Kind: api.NTuple, Kids: []api.Node{name("a"), {Kind: api.NList, Kids: []api.Node{name("b"), attr}}, {Kind: api.NIndex, Kids: []api.Node{name("z"), name("w")}}, name("a")}}
	var got []string
	EachTarget(place, func(s string) { got = append(got, s) })
	if strings.Join(got, " ") != "a b a" {
		t.Error(got)
	}
}
