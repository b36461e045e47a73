package merge

import (
	"reflect"
	"testing"
)

// Orders are kept, the first list goes ahead, and what can't be kept is told.
func TestLists(t *testing.T) {
	for n, c := range []struct {
		lists [][]int
		want  []int
		ok    bool
	}{
		{nil, nil, true}, {[][]int{{}, nil}, nil, true}, {[][]int{{1, 2}, {3, 2}, {1, 3}}, []int{1, 3, 2}, true}, {[][]int{{1, 2}, {2, 1}}, nil, false}, {[][]int{{5, 1, 2}, {2, 1}}, []int{5}, false}, {[][]int{{7}, {7}, {7, 8}}, []int{7, 8}, true}, {[][]int{{3}, {1, 3}, {1}}, []int{1, 3}, true},
	} {
		got, ok := Lists(c.lists)
		if !reflect.DeepEqual(got, c.want) || ok != c.ok {
			t.Errorf("case %d: %v %v", n, got, ok)
		}
	}
	lists := [][]int{{1, 2}, {2, 3}}
	Lists(lists)
	if !reflect.DeepEqual(lists, [][]int{{1, 2}, {2, 3}}) {
		t.Error("changed")
	}
}
