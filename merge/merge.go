// Package merge puts lists together so that each one's order is kept: what classes' orders are made by.
package merge

// Lists: the numbers of the lists, each once, in an order that keeps all of theirs; false, if there is none. Of the first of the lists whose first number stands in no list elsewhere than at its beginning that number is taken, and so on.
func Lists(lists [][]int) ([]int, bool) {
	left := make([][]int, len(lists))
	copy(left, lists)
	behind := map[int]int{} // how often a number stands elsewhere than at a list's beginning
	for _, l := range left {
		for _, c := range l[min(1, len(l)):] {
			behind[c]++
		}
	}
	var out []int
next:
	for {
		empty := true
		for _, l := range left {
			if len(l) == 0 {
				continue
			}
			empty = false
			if behind[l[0]] == 0 {
				out = append(out, l[0])
				take(left, l[0], behind)
				continue next
			}
		}
		return out, empty
	}
}

// take takes the number away from the beginning of all lists.
func take(left [][]int, c int, behind map[int]int) {
	for i, l := range left {
		if len(l) == 0 || l[0] != c {
			continue
		}
		left[i] = l[1:]
		if len(l) > 1 {
			behind[l[1]]--
		}
	}
}
