package look

import (
	"strings"
	"testing"

	"scree/api"
	"scree/arena"
	"scree/word"
)

// A string's bytes come out of their words as they went in.
func TestTexts(t *testing.T) {
	for _, n := range []int{0, 1, 7, 8, 9, 16, 20000} {
		m, _ := arena.New(3000)
		text := strings.Repeat("a\x00\xff", n)[:n]
		a, e := arena.Alloc(&m, api.KStr, 0, TextWords(n))
		if e != api.OK {
			t.Fatal(e)
		}
		PutText(&m, a, text)
		w, _ := word.Addr(a)
		if v, ok := Take(m, w); !ok || v.Kind != api.KStr || v.Text != text {
			t.Errorf("%d bytes: %d, %v", n, len(v.Text), ok)
		}
		if s, at, ok := At(m, w); !ok || at != a || s != (Shape{api.KStr, 0, TextWords(n)}) {
			t.Error(s, at, ok)
		}
	}
}

// Words that are there, and words that aren't.
func TestThere(t *testing.T) {
	m, _ := arena.New(20)
	a, _ := arena.Alloc(&m, api.KTuple, 1, 0)
	w, _ := word.Addr(a)
	for x, want := range map[uint64]bool{2: true, 14: true, 21: true, w: true, w + 4: false, 0: false, 3: false, 4 * 19: false} {
		if There(m, x) != want {
			t.Errorf("There(%d)", x)
		}
	}
	if from, n, kind := Row(m, w); from != a || n != 1 || kind != api.KTuple {
		t.Error(from, n, kind)
	}
	if _, _, kind := Row(m, 2); kind != 0 {
		t.Error("None is no row")
	}
}

// The bounds of work and depth.
func TestCounter(t *testing.T) {
	c := Counter{}
	for range api.MaxWork {
		if e := c.Step(api.MaxNest); e != api.OK {
			t.Fatal(e)
		}
	}
	if e := c.Step(1); e != api.ErrWork {
		t.Error(e)
	}
	d := Counter{}
	if e := d.Step(api.MaxNest + 1); e != api.ErrDeep {
		t.Error(e)
	}
}
