package deep

import (
	"strings"

	"scree/api"
	"scree/look"
	"scree/plain"
	"scree/word"
)

// names are the builtins' names, by their numbers.
const names = "print input len range str repr int float bool list tuple dict set iter next isinstance hash abs chr ord " +
	"Exception TypeError ValueError NameError AssertionError ZeroDivisionError IndexError KeyError AttributeError OverflowError RuntimeError StopIteration EOFError min max"

// Builtin: the name of a builtin.
func Builtin(n int) string {
	list := strings.Fields(names)
	if n < 0 || n >= len(list) {
		return ""
	}
	return list[n]
}

// given is what the printer gives up with.
type given struct{ err api.Errno }

// printer gathers a text; it gives up by panic when that gets too long, too deep or too much.
type printer struct {
	look.Counter
	text strings.Builder
}

func (p *printer) add(pieces ...string) {
	for _, s := range pieces {
		p.text.WriteString(s)
		if p.text.Len() > api.MaxLen {
			panic(given{api.ErrLong})
		}
	}
}

// Quote: the text as a source has it.
func Quote(m api.Mem, w uint64) (text string, err api.Errno) {
	if !look.There(m, w) {
		return "", api.ErrArg
	}
	defer func() {
		if r := recover(); r != nil {
			g, ok := r.(given)
			if !ok {
				panic(r)
			}
			text, err = "", g.err
		}
	}()
	p := &printer{Counter: look.Counter{M: m}}
	p.quote(w, 1)
	return p.text.String(), api.OK
}

// Text: the text.
func Text(m api.Mem, w uint64) (string, api.Errno) {
	if v, ok := look.Take(m, w); ok && v.Kind == api.KStr {
		return v.Text, api.OK
	}
	return Quote(m, w)
}

// quote adds the Quote of a word that lies at that depth.
func (p *printer) quote(w uint64, depth int) {
	if err := p.Step(depth); err != api.OK {
		panic(given{err})
	}
	if v, ok := look.Take(p.M, w); ok {
		p.add(plain.Quote(v))
		return
	}
	kind, items := parts(p.M, w)
	switch kind {
	case api.KList:
		p.row("[", items, "]", depth)
	case api.KTuple:
		if len(items) == 1 {
			p.row("(", items, ",)", depth)
			return
		}
		p.row("(", items, ")", depth)
	case api.KSet:
		if len(items) == 0 {
			p.add("set()")
			return
		}
		p.row("{", items, "}", depth)
	case api.KDict:
		p.dict(items, depth)
	case api.KRange:
		p.row("range(", items, ")", depth)
	default:
		p.other(w)
	}
}

func (p *printer) row(opening string, items []uint64, closing string, depth int) {
	p.add(opening)
	for i, w := range items {
		if i > 0 {
			p.add(", ")
		}
		p.quote(w, depth+1)
	}
	p.add(closing)
}

func (p *printer) dict(items []uint64, depth int) {
	p.add("{")
	for i := 0; i+1 < len(items); i += 2 {
		if i > 0 {
			p.add(", ")
		}
		p.quote(items[i], depth+1)
		p.add(": ")
		p.quote(items[i+1], depth+1)
	}
	p.add("}")
}

// other adds what is told of an object that is no value of its own.
func (p *printer) other(w uint64) {
	s, a, _ := look.At(p.M, w)
	switch s.Kind {
	case api.KBuiltin:
		p.add("<builtin ", builtinName(p.M, a, s), ">")
	case api.KFunc:
		p.add("<function ", nameAt(p.M, w, 2), ">")
	case api.KClass:
		p.add("<class ", nameAt(p.M, w, 0), ">")
	case api.KInstance:
		name := ""
		if s.Tagged > 0 {
			class := look.Item(p.M, a, 0)
			if c, _, ok := look.At(p.M, class); ok && c.Kind == api.KClass {
				name = nameAt(p.M, class, 0)
			}
		}
		p.add("<", name, ">")
	case api.KMethod:
		p.add("<method>")
	case api.KIter:
		p.add("<iterator>")
	case api.KGen:
		p.add("<generator>")
	case api.KCell:
		p.add("<cell>")
	default:
		p.add("<?>")
	}
}

// nameAt is the string that is the tagged word i of an object, if it is one.
func nameAt(m api.Mem, w uint64, i int) string {
	s, a, _ := look.At(m, w)
	if i >= s.Tagged {
		return ""
	}
	v, _ := look.Take(m, look.Item(m, a, i))
	return v.Text
}

// builtinName is the name of the builtin whose number is the first tagged word; of one that is no number that of 0.
func builtinName(m api.Mem, a int, s look.Shape) string {
	if s.Tagged == 0 {
		return ""
	}
	n, _ := word.Num(look.Item(m, a, 0))
	return Builtin(n)
}
