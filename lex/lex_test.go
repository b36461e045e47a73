package lex

import (
	"math/rand"
	"reflect"
	"strconv"
	"strings"
	"testing"

	"scree/api"
)

// tell writes tokens as short texts: kind, line, text.
func tell(ts []api.Token) string {
	names := []string{"END", "LINE", "IN", "OUT", "name", "int", "float", "str", "word", ""}
	out := []string{}
	for _, t := range ts {
		s := names[t.Kind] + ":" + strconv.Itoa(t.Line)
		if t.Kind >= api.TName {
			s += ":" + t.Text
		}
		out = append(out, s)
	}
	return strings.Join(out, " ")
}

// P4.1.
func TestTokens(t *testing.T) {
	for src, want := range map[string]string{
		"a = 1\n":                           "name:1:a :1:= int:1:1 LINE:1 END:2",
		"if a:\n  b\n\n# c\nd":              "word:1:if name:1:a :1:: LINE:1 IN:2 name:2:b LINE:2 OUT:5 name:5:d LINE:5 END:5",
		"f(1,\n   2)":                       "name:1:f :1:( int:1:1 :1:, int:2:2 :2:) LINE:2 END:2",
		"f(1":                               "name:1:f :1:( int:1:1 END:1",
		"  a\nb":                            "IN:1 name:1:a LINE:1 OUT:2 name:2:b LINE:2 END:2",
		"":                                  "END:1",
		"\n# x":                             "END:2",
		")":                                 ":1:) LINE:1 END:1",
		"))(\na)":                           ":1:) :1:) :1:( name:2:a :2:) LINE:2 END:2",
		"0 10 1.5e-3 1e5 0.0 1e+2 00.5":     "int:1:0 int:1:10 float:1:1.5e-3 float:1:1e5 float:1:0.0 float:1:1e+2 float:1:00.5 LINE:1 END:1",
		"a.b x2 _ a1_":                      "name:1:a :1:. name:1:b name:1:x2 name:1:_ name:1:a1_ LINE:1 END:1",
		"'a\\x41\\n' \"'\\\"\"":             "str:1:aA\n str:1:'\" LINE:1 END:1",
		"'\\\\' '\\t\\'\"' '\\xfF\xc3'":     "str:1:\\ str:1:\t'\" str:1:\xff\xc3 LINE:1 END:1",
		"a//=b**c***=d!=e<=f==g=h":          "name:1:a :1://= name:1:b :1:** name:1:c :1:** :1:*= name:1:d :1:!= name:1:e :1:<= name:1:f :1:== name:1:g :1:= name:1:h LINE:1 END:1",
		"+ - * / // % ** = == < <= > >= +=": ":1:+ :1:- :1:* :1:/ :1:// :1:% :1:** :1:= :1:== :1:< :1:<= :1:> :1:>= :1:+= LINE:1 END:1",
		"-= *= /= %= **= ( ) [ ] { } , : .": ":1:-= :1:*= :1:/= :1:%= :1:**= :1:( :1:) :1:[ :1:] :1:{ :1:} :1:, :1:: :1:. LINE:1 END:1",
		"if a:\n b\n  c\n":                  "word:1:if name:1:a :1:: LINE:1 IN:2 name:2:b LINE:2 IN:3 name:3:c LINE:3 OUT:4 OUT:4 END:4",
		"(\n\n # x \t\n    a\n)\nb":         ":1:( name:4:a :5:) LINE:5 name:6:b LINE:6 END:6",
		" (":                                "IN:1 :1:( OUT:1 END:1",
		"a # '\t \"\n   \n b":               "name:1:a LINE:1 IN:3 name:3:b LINE:3 OUT:3 END:3",
		"1-1":                               "int:1:1 :1:- int:1:1 LINE:1 END:1",
		"True False None not nots":          "word:1:True word:1:False word:1:None word:1:not name:1:nots LINE:1 END:1",
	} {
		ts, line, e := Lex([]byte(src))
		if got := tell(ts); got != want || line != 0 || e != api.OK {
			t.Errorf("%q: %s (%d, %d); want %s", src, got, line, e, want)
		}
	}
}

func TestWords(t *testing.T) {
	for _, w := range strings.Fields("and as assert break class continue def del elif else except finally for global if in is lambda nonlocal not or pass raise return try while with yield True False None") {
		if ts, _, _ := Lex([]byte(w)); len(ts) != 3 || ts[0].Kind != api.TWord || ts[0].Text != w {
			t.Errorf("%s: %s", w, tell(ts))
		}
		if ts, _, _ := Lex([]byte(w + "1")); len(ts) != 3 || ts[0].Kind != api.TName {
			t.Errorf("%s1: %s", w, tell(ts))
		}
	}
	if ts, _, _ := Lex([]byte("import")); ts[0].Kind != api.TName {
		t.Error("import is no word")
	}
}

// P4.1: what is wrong, and where.
func TestErrors(t *testing.T) {
	long := strings.Repeat("1", 540)
	for src, want := range map[string]struct {
		line int
		err  api.Errno
	}{
		"if a:\n    b\n  c": {3, api.ErrIndent}, "if a:\n  b\n \tc": {3, api.ErrIndent}, "007": {1, api.ErrLex}, "a\n00": {2, api.ErrLex}, "1.": {1, api.ErrLex}, "1.x": {1, api.ErrLex}, "2x": {1, api.ErrLex},
		"1e": {1, api.ErrLex}, "1e+": {1, api.ErrLex}, "1.5.2": {1, api.ErrLex}, "1.5e3x": {1, api.ErrLex}, "1.5e3.": {1, api.ErrLex}, "1_0": {1, api.ErrLex}, "1e5e": {1, api.ErrLex},
		"'a": {1, api.ErrLex}, "\n'a\n'": {2, api.ErrLex}, "\ta": {1, api.ErrLex}, "'\t'": {1, api.ErrLex}, "'\\q'": {1, api.ErrLex}, "'\\x4'": {1, api.ErrLex}, "'\\x4g'": {1, api.ErrLex}, "'\\": {1, api.ErrLex}, "'\\'": {1, api.ErrLex},
		"(\n'a": {2, api.ErrLex}, "a;b": {1, api.ErrLex}, "a\r\n": {1, api.ErrLex}, "!": {1, api.ErrLex}, "a\n\nb @": {3, api.ErrLex}, "\xc3\xa4": {1, api.ErrLex}, "a\xc3": {1, api.ErrLex}, "\x00": {1, api.ErrLex}, "?\n  a\n b": {1, api.ErrLex},
		long + "1": {1, api.ErrLex}, "1." + long: {1, api.ErrLex}, "'\\\n'": {1, api.ErrLex},
		strings.Repeat(" ", 20001): {0, api.ErrSize},
	} {
		ts, line, e := Lex([]byte(src))
		if len(ts) != 0 || line != want.line || e != want.err {
			t.Errorf("%.40q: %d tokens, %d, %d; want %d, %d", src, len(ts), line, e, want.line, want.err)
		}
	}
	if _, _, e := Lex([]byte(long)); e != api.OK {
		t.Errorf("540 digits: %d", e)
	}
	if _, _, e := Lex([]byte(strings.Repeat("a ", 10000))); e != api.OK {
		t.Errorf("20000 bytes: %d", e)
	}
}

// P4.1, P4.3: any bytes end well, and stay as they are.
func TestAnyBytes(t *testing.T) {
	r := rand.New(rand.NewSource(1))
	alphabet := "ab1 0.e+-*/='\"\\xn\n\n  #()[]{}:,!\t\x80if"
	for range 30000 {
		src := make([]byte, r.Intn(40))
		for i := range src {
			src[i] = alphabet[r.Intn(len(alphabet))]
		}
		keep := string(src)
		ts, line, e := Lex(src)
		again, _, _ := Lex(src)
		if string(src) != keep || !reflect.DeepEqual(ts, again) {
			t.Fatalf("%q: changed, or answered otherwise", keep)
		}
		if (e == api.OK) != (line == 0) || e != api.OK && len(ts) != 0 {
			t.Fatalf("%q: %d tokens, %d, %d", keep, len(ts), line, e)
		}
		deep := 0
		for _, x := range ts {
			switch x.Kind {
			case api.TIn:
				deep++
			case api.TOut:
				deep--
			}
		}
		if deep != 0 {
			t.Fatalf("%q: blocks don't close", keep)
		}
	}
}

// P4.2: the tokens of two sources, one behind the other.
func TestJoined(t *testing.T) {
	first, second := "if a:\n  b\n", "# c\n\nd\n"
	one, _, _ := Lex([]byte(first))
	two, _, _ := Lex([]byte(second))
	both, _, _ := Lex([]byte(first + second))
	want := one[:len(one)-2]
	for i, x := range two {
		x.Line += strings.Count(first, "\n")
		if i == 0 {
			want = append(want[:len(want):len(want)], api.Token{Kind: api.TOut, Line: x.Line})
		}
		want = append(want, x)
	}
	if !reflect.DeepEqual(both, want) {
		t.Errorf("%s; want %s", tell(both), tell(want))
	}
}

// P4.2: blanks, comments and empty lines count nothing.
func TestBlanks(t *testing.T) {
	a, _, _ := Lex([]byte("if a:\n b=(1,2)\nc"))
	b, _, _ := Lex([]byte("\n  # x\nif   a :# y\n   b = (  1,\n\n2 ) #\n\n      # z\nc   "))
	for i := range b {
		b[i].Line = 0
	}
	for i := range a {
		a[i].Line = 0
	}
	if !reflect.DeepEqual(a, b) {
		t.Errorf("%s; %s", tell(a), tell(b))
	}
}
