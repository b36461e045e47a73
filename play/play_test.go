package play

import (
	"math/rand"
	"reflect"
	"strings"
	"testing"

	"scree/api"
	"scree/plain"
)

// P24.1.
func TestRead(t *testing.T) {
	for text, want := range map[string]struct {
		src string
		g   api.Config
	}{
		"---": {"", api.Config{Fuel: 1000, Words: 20000}}, "---\n": {"", api.Config{Fuel: 1000, Words: 20000}}, "---\na\n---\nb\n": {"a\n---\nb\n", api.Config{Fuel: 1000, Words: 20000}},
		"fuel 9\nwords 007\n\n# fuel x\nfuel 10\nall\nforce 1 2\nforce 999999999\ninput a b\ninput\ninput \ninput  c\nall\n---\nx": {"x", api.Config{Fuel: 10, Words: 7, All: true, Force: []int{1, 2, 999999999}, Inputs: []string{"a b", "", "", " c"}}},
	} {
		src, g, line, e := Read(text)
		if string(src) != want.src || !reflect.DeepEqual(g, want.g) || line != 0 || e != api.OK {
			t.Errorf("%q: %q %v %d %d", text, src, g, line, e)
		}
	}
	for text, want := range map[string]int{
		"": 2, "\n": 3, "fuel 1": 2, "fuel 1\n\n# x": 4, "fuel\n---": 1, "fuel \n---": 1, "fuel  1\n---": 1, "fuel 1 \n---": 1, "fuel 1 2\n---": 1, "fuel -1\n---": 1, "fuel +1\n---": 1, "fuel 1234567890\n---": 1, "fuel x\n---": 1, "words\n---": 1, "words 1 2\n---": 1, "\nwords 1_0\n---": 2, "all \n---": 1, "all 1\n---": 1, "force\n---": 1, "force \n---": 1, "force 1  2\n---": 1, "force 1 x\n---": 1, "inputs\n---": 1, "Input a\n---": 1, " fuel 1\n---": 1, "--- \n---": 1, "----\n---": 1, " #\n---": 1, "x\n---": 1, "fuel 1\r\n---": 1, "fuel\t1\n---": 1, "all\nall\nal\n---": 3, "fuel 1\nx": 2, "5\n---": 1, " 5\n---": 1,
	} {
		src, g, line, e := Read(text)
		if src != nil || !reflect.DeepEqual(g, api.Config{}) || line != want || e != api.ErrText {
			t.Errorf("%q: %q %v %d %d, want %d", text, src, g, line, e, want)
		}
	}
}

// P24.2.
func TestScript(t *testing.T) {
	g := api.Config{Fuel: 5, Words: 999999999, All: true, Force: []int{3, 0, 4}, Inputs: []string{"", "a  b", "---"}}
	s, e := Script([]byte("x\n---\ny"), g)
	if s != "fuel 5\nwords 999999999\nall\nforce 3 0 4\ninput \ninput a  b\ninput ---\n---\nx\n---\ny" || e != api.OK {
		t.Errorf("%q %d", s, e)
	}
	if s, e := Script(nil, api.Config{}); s != "fuel 0\nwords 0\n---\n" || e != api.OK {
		t.Errorf("%q %d", s, e)
	}
	for _, g := range []api.Config{{Fuel: -1}, {Fuel: 1000000000}, {Words: -1}, {Words: 1000000000}, {Force: []int{1, -1}}, {Force: []int{1000000000}}, {Inputs: []string{"a", "b\n"}}} {
		if s, e := Script(nil, g); s != "" || e != api.ErrForm {
			t.Errorf("%v: %q %d", g, s, e)
		}
	}
}

// P24.3.
func TestWrite(t *testing.T) {
	for want, r := range map[string]api.Report{
		"ok\nused 0\n":                             {},
		"| 'a\\'\\n\\xff'\n| ''\nok\nused 7\n":     {Out: []string{"a'\n\xff", ""}, Fuel: 7},
		"raise ValueError 'x' at 3\nused 1\n":      {End: api.EndRaise, Class: "ValueError", Text: "x", Line: 3, Fuel: 1},
		"fuel at 2\nused 9\n":                      {End: api.EndFuel, Line: 2, Fuel: 9},
		"heap at 0\nused 0\n":                      {End: api.EndHeap},
		"| 'x'\nreject SyntaxError at 4\nused 0\n": {Out: []string{"x"}, End: api.EndReject, Class: "SyntaxError", Line: 4},
		"arg\nused 0\n":                            {End: api.EndArg, Line: 4, Class: "x"},
		"arg\nused -5\n":                           {End: 6, Fuel: -5},
		"arg\nused 2\n":                            {End: -1, Fuel: 2},
	} {
		if got := Write(r); got != want {
			t.Errorf("%v: %q, want %q", r, got, want)
		}
	}
	long := strings.Repeat("ab\n'", 12000)
	want := "'" + strings.Repeat("ab\\n\\'", 12000) + "'"
	if got := Write(api.Report{Out: []string{long}}); got != "| "+want+"\nok\nused 0\n" {
		t.Error("a long line")
	}
	short := long[:9000]
	if got := Write(api.Report{Out: []string{short}}); got != "| "+plain.Quote(api.Value{Kind: api.KStr, Text: short})+"\nok\nused 0\n" {
		t.Error("not plain.Quote")
	}
}

// P24.4.
func TestPlay(t *testing.T) {
	for text, want := range map[string]string{
		"fuel 9\ninput a b\n---\nprint(input())\nprint(1 // 0)": "| 'a b'\nraise ZeroDivisionError '' at 2\nused 2\n", "---": "ok\nused 0\n", "fuel\n---": "wrong 1\n", "": "wrong 2\n", "all\nforce 1 2\n---\nx = (": "reject SyntaxError at 1\nused 0\n",
		"fuel 3\n---\nwhile True: pass": "fuel at 1\nused 3\n", "words 200\n---\n": "heap at 0\nused 0\n", "words 1\n---\n": "arg\nused 0\n", "fuel 1000001\n---\n": "arg\nused 0\n", "---\nraise ValueError('it\\'s')": "raise ValueError 'it\\'s' at 1\nused 1\n", "fuel 2\nfuel 1\n---\nprint(1)\nprint(2)": "| '1'\nfuel at 1\nused 1\n",
	} {
		if got := Play(text); got != want {
			t.Errorf("%q: %q, want %q", text, got, want)
		}
	}
}

// P24.5: Read of Script is what was handed in; any text ends.
func TestRound(t *testing.T) {
	r := rand.New(rand.NewSource(1))
	for range 3000 {
		g := api.Config{Fuel: r.Intn(50), Words: r.Intn(900), All: r.Intn(2) == 0}
		for range r.Intn(3) {
			g.Force = append(g.Force, r.Intn(1000))
			g.Inputs = append(g.Inputs, []string{"", "a", " b ", "#", "fuel 1", "\x00\r"}[r.Intn(6)])
		}
		src := []string{"", "print(1)", "---\n", "print(input())\n"}[r.Intn(4)]
		s, e := Script([]byte(src), g)
		if e != api.OK {
			t.Fatal(e)
		}
		back, h, line, e := Read(s)
		if string(back) != src || !reflect.DeepEqual(h, g) || line != 0 || e != api.OK {
			t.Fatalf("%q: %q %v %d %d", s, back, h, line, e)
		}
		text := "fuel 3\n" + s[r.Intn(len(s)):]
		if back, h, _, e := Read(text); e == api.OK {
			again, _ := Script(back, h)
			if Play(again) != Play(text) {
				t.Fatalf("%q", text)
			}
		} else if !strings.HasPrefix(Play(text), "wrong ") {
			t.Fatalf("%q", text)
		}
	}
}

// Nothing that is handed in is changed.
func TestMemory(t *testing.T) {
	force := append(make([]int, 0, 9), 5)
	Script(nil, api.Config{Force: force})
	if force[:2][1] != 0 || force[0] != 5 {
		t.Error("changed")
	}
	a, _, _, _ := Read("---\nabc")
	a[0] = 'z'
	if b, _, _, _ := Read("---\nabc"); string(b) != "abc" {
		t.Error("shared")
	}
}
