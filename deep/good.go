// Package deep is layer 18: whole values. They are laid into the memory, read back, told and put in order.
package deep

import (
	"math"

	"scree/api"
	"scree/plain"
)

const prime = 1<<31 - 1

func isContainer(kind int) bool { return kind >= api.KList && kind <= api.KRange }

// Good: is the whole value in form.
func Good(v api.Value) bool {
	count := 0
	return good(v, 1, &count)
}

// good goes through a value that lies at that depth, counting.
func good(v api.Value, depth int, count *int) bool {
	*count++
	if depth > api.MaxNest || *count > api.MaxWork {
		return false
	}
	if !isContainer(v.Kind) {
		return plain.Good(v)
	}
	if v.Yes || v.Bits != 0 || v.Text != "" || v.Int.Neg || len(v.Int.Limbs) > 0 || !goodLength(v) {
		return false
	}
	for _, item := range v.Items {
		if !good(item, depth+1, count) {
			return false
		}
	}
	switch v.Kind {
	case api.KRange:
		return goodRange(v)
	case api.KSet:
		return goodKeys(v.Items, 1)
	case api.KDict:
		return goodKeys(v.Items, 2)
	}
	return true
}

func goodLength(v api.Value) bool {
	n := len(v.Items)
	switch v.Kind {
	case api.KDict:
		return n%2 == 0 && n/2 <= api.MaxLen
	case api.KRange:
		return n == 3
	}
	return n <= api.MaxLen
}

func goodRange(v api.Value) bool {
	for _, item := range v.Items {
		if item.Kind != api.KInt {
			return false
		}
	}
	return plain.Truth(v.Items[2])
}

// goodKeys: is each of every so many items hashable, and no two of them equal? Those of one hash are held against each other.
func goodKeys(items []api.Value, every int) bool {
	byHash := map[int][]int{}
	for i := 0; i < len(items); i += every {
		if !isHashable(items[i]) {
			return false
		}
		if hasNaN(items[i]) {
			continue
		}
		h := hashOf(items[i])
		for _, other := range byHash[h] {
			if equal(items[i], items[other]) {
				return false
			}
		}
		byHash[h] = append(byHash[h], i)
	}
	return true
}

func isHashable(v api.Value) bool {
	if v.Kind != api.KTuple {
		return !isContainer(v.Kind)
	}
	for _, item := range v.Items {
		if !isHashable(item) {
			return false
		}
	}
	return true
}

// hasNaN: such a key is equal to nothing, not even to itself.
func hasNaN(v api.Value) bool {
	if v.Kind == api.KFloat {
		f := math.Float64frombits(v.Bits)
		return f != f
	}
	for _, item := range v.Items {
		if hasNaN(item) {
			return true
		}
	}
	return false
}

// hashOf is the same for equal keys.
func hashOf(v api.Value) int {
	if v.Kind != api.KTuple {
		return plain.Hash(v)
	}
	h := len(v.Items)
	for _, item := range v.Items {
		h = (31*h + (hashOf(item)%prime+prime)%prime + 1) % prime
	}
	return h
}

func equal(a, b api.Value) bool {
	if a.Kind != api.KTuple || b.Kind != api.KTuple {
		return plain.Equal(a, b)
	}
	if len(a.Items) != len(b.Items) {
		return false
	}
	for i := range a.Items {
		if !equal(a.Items[i], b.Items[i]) {
			return false
		}
	}
	return true
}
