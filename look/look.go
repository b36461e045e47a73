// Package look reads values of the memory: what layers 16 and 18 both ask of words.
package look

import (
	"math"

	"scree/api"
	"scree/arena"
	"scree/plain"
	"scree/whole"
	"scree/word"
)

// Shape is what an object's head says of its layout.
type Shape struct {
	Kind, Tagged, Raw int
}

const (
	nan     = 0x7ff8000000000000 // the one pattern of NaN in the memory
	inWord  = 8                  // bytes of a string in a word
	byteLen = 8                  // bits of a byte
)

// At is the shape of what seems to lie where the word leads, and its address.
func At(m api.Mem, w uint64) (Shape, int, bool) {
	a, err := word.At(w)
	if err != api.OK {
		return Shape{}, 0, false
	}
	kind, err := arena.Kind(m, a)
	if err != api.OK {
		return Shape{}, 0, false
	}
	tagged, raw, _ := arena.Size(m, a)
	return Shape{kind, tagged, raw}, a, true
}

// There: is the word good, and does an object seem to lie where it leads?
func There(m api.Mem, w uint64) bool {
	switch word.Kind(w) {
	case word.Address:
		_, _, ok := At(m, w)
		return ok
	case word.Nothing:
		return false
	}
	return true
}

// Item is an item that is known to be there.
func Item(m api.Mem, a, i int) uint64 {
	w, _ := arena.Get(m, a, i)
	return w
}

// Take is the plain value that the word is; false, if it is none.
func Take(m api.Mem, w uint64) (api.Value, bool) {
	switch word.Kind(w) {
	case word.Number:
		n, _ := word.Num(w)
		return api.Value{Kind: api.KInt, Int: whole.Of(n)}, true
	case word.Constant:
		return constant(w)
	}
	s, a, ok := At(m, w)
	if !ok {
		return api.Value{}, false
	}
	switch s.Kind {
	case api.KInt:
		return takeInt(m, a, s)
	case api.KFloat:
		if s != (Shape{api.KFloat, 0, 1}) {
			return api.Value{}, false
		}
		bits := Item(m, a, 0)
		f := math.Float64frombits(bits)
		// A NaN, which is unlike itself, has one pattern alone.
		if f != f && bits != nan {
			return api.Value{}, false
		}
		return api.Value{Kind: api.KFloat, Bits: bits}, true
	case api.KStr:
		if text, ok := takeText(m, a, s); ok {
			return api.Value{Kind: api.KStr, Text: text}, true
		}
	}
	return api.Value{}, false
}

func constant(w uint64) (api.Value, bool) {
	switch k, _ := word.Which(w); k {
	case word.None:
		return api.Value{}, true
	case word.False, word.True:
		return api.Value{Kind: api.KBool, Yes: k == word.True}, true
	}
	return api.Value{}, false
}

// takeInt takes an int that is too great for a small number.
func takeInt(m api.Mem, a int, s Shape) (api.Value, bool) {
	const leastLimbs = 2
	sign := Item(m, a, 0)
	if s.Tagged != 0 || s.Raw < 1+leastLimbs || sign > 1 {
		return api.Value{}, false
	}
	x := api.Big{Neg: sign == 1, Limbs: make([]uint64, s.Raw-1)}
	for i := range x.Limbs {
		x.Limbs[i] = Item(m, a, i+1)
	}
	if !whole.Good(x) {
		return api.Value{}, false
	}
	return api.Value{Kind: api.KInt, Int: x}, true
}

// takeText takes a string's bytes out of their words.
func takeText(m api.Mem, a int, s Shape) (string, bool) {
	n := Item(m, a, 0)
	if s.Raw < 1 || n > api.MaxLen || s != (Shape{api.KStr, 0, TextWords(int(n))}) {
		return "", false
	}
	text := make([]byte, n)
	for k := range s.Raw - 1 {
		w := Item(m, a, k+1)
		for i := k * inWord; i < min((k+1)*inWord, len(text)); i++ {
			text[i] = byte(w)
			w >>= byteLen
		}
		if w != 0 && k == s.Raw-2 && len(text)%inWord != 0 {
			return "", false
		}
	}
	return string(text), true
}

// TextWords is how many raw words a string of n bytes has.
func TextWords(n int) int { return 1 + (n+inWord-1)/inWord }

// PutText lays a string's bytes, eight a word.
func PutText(m *api.Mem, a int, text string) {
	arena.Set(m, a, 0, uint64(len(text)))
	for k := range TextWords(len(text)) - 1 {
		w := uint64(0)
		for i := min((k+1)*inWord, len(text)) - 1; i >= k*inWord; i-- {
			w = w<<byteLen | uint64(text[i])
		}
		arena.Set(m, a, k+1, w)
	}
}

// List is a list's own address, how many items it has, and its block's address and room (0 and 0, if it has none); false, if none seems to lie there.
func List(m api.Mem, w uint64) (a, count, block, room int, ok bool) {
	s, a, ok := At(m, w)
	if !ok || s != (Shape{api.KList, 2, 0}) {
		return 0, 0, 0, 0, false
	}
	count, err := word.Num(Item(m, a, 0))
	if err != api.OK {
		return 0, 0, 0, 0, false
	}
	second := Item(m, a, 1)
	if b, at, ok := At(m, second); ok && b.Kind == api.KBlock {
		block, room = at, b.Tagged
	} else if v, ok := constant(second); !ok || v.Kind != api.KNone {
		return 0, 0, 0, 0, false
	}
	if count < 0 || count > room {
		return 0, 0, 0, 0, false
	}
	return a, count, block, room, true
}

// Row is where the items of a list or tuple lie, how many they are, and the kind of it: 0, if it is none.
func Row(m api.Mem, w uint64) (from, n, kind int) {
	s, a, ok := At(m, w)
	switch {
	case ok && s.Kind == api.KTuple:
		return a, s.Tagged, s.Kind
	case ok && s.Kind == api.KList:
		if _, count, block, _, ok := List(m, w); ok {
			return block, count, s.Kind
		}
	}
	return 0, 0, 0
}

// Items are the items of a list or tuple, as new memory; the kind is that of it, or 0.
func Items(m api.Mem, w uint64) ([]uint64, int) {
	from, n, kind := Row(m, w)
	if kind == 0 {
		return nil, 0
	}
	out := make([]uint64, n)
	for i := range out {
		out[i] = Item(m, from, i)
	}
	return out, kind
}

// Counter counts the values, or pairs of values, that one comparison, hash or text goes through.
type Counter struct {
	M     api.Mem
	count int
}

// Step counts one more, which lies at that depth.
func (c *Counter) Step(depth int) api.Errno {
	c.count++
	switch {
	case c.count > api.MaxWork:
		return api.ErrWork
	case depth > api.MaxNest:
		return api.ErrDeep
	}
	return api.OK
}

// Equal: are both words equal?
func (c *Counter) Equal(a, b uint64, depth int) (bool, api.Errno) {
	if err := c.Step(depth); err != api.OK {
		return false, err
	}
	if a == b && word.Kind(a) == word.Number {
		return true, api.OK
	}
	p, ok1 := Take(c.M, a)
	q, ok2 := Take(c.M, b)
	if ok1 && ok2 {
		return plain.Equal(p, q), api.OK
	}
	if a == b || ok1 || ok2 {
		return a == b, api.OK
	}
	x, n, kind := Row(c.M, a)
	y, m, other := Row(c.M, b)
	if kind == 0 || kind != other || n != m {
		return false, api.OK
	}
	for i := range n {
		if same, err := c.Equal(Item(c.M, x, i), Item(c.M, y, i), depth+1); !same || err != api.OK {
			return false, err
		}
	}
	return true, api.OK
}
