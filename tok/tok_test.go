package tok_test

import (
	"slices"
	"strings"
	"testing"

	"whirligig/api"
	"whirligig/tok"
)

// meaning are the words that mean something.
const meaning = "chart var state parallel final deep shallow enter exit on auto end if go inner do set raise send cancel log true false not and or in"

// some are tokens of all kinds, and of none, as a line has them and as none has.
func some() []tok.Token {
	var out []tok.Token
	for kind := -1; kind < 8; kind++ {
		for _, s := range []string{"", "a", "go", "a.b", "12", "<=", "<", " ", "a b", "'", "\x00\xff"} {
			out = append(out, tok.Token{Kind: kind, Text: s}, tok.Token{Kind: kind, Text: s, N: 7, At: -3})
		}
	}
	return out
}

func TestNumbersOfConstants(t *testing.T) {
	for i, k := range []int{tok.Word, tok.Path, tok.Number, tok.Quote, tok.Sign} {
		if k != i+1 {
			t.Error("kind", i+1, k)
		}
	}
}

// P2.2
func TestJoin(t *testing.T) {
	for want, l := range map[string][]tok.Token{
		"":                nil,
		"a":               {{Kind: tok.Word, Text: "a"}},
		"''":              {{Kind: tok.Quote}},
		"' ' ' a '":       {{Kind: tok.Quote, Text: " "}, {Kind: tok.Quote, Text: " a "}},
		"a b.c 7 'd' <= ": {{Kind: tok.Word, Text: "a"}, {Kind: tok.Path, Text: "b.c"}, {Kind: tok.Number, Text: "7", N: 8}, {Kind: tok.Quote, Text: "d", At: 90}, {Kind: tok.Sign, Text: "<="}, {Kind: tok.Word}},
		"< =":             {{Kind: tok.Sign, Text: "<"}, {Kind: tok.Sign, Text: "="}},
		" ":               {{}, {}},
	} {
		if got := tok.Join(l...); got != want {
			t.Errorf("%q, not %q", got, want)
		}
	}
	if s := tok.Join(slices.Repeat([]tok.Token{{Kind: tok.Quote, Text: "a"}}, 1000)...); s != strings.Repeat("'a' ", 999)+"'a'" {
		t.Error("many")
	}
}

// P2.2
func TestJoinAnyTokens(t *testing.T) {
	var all []string
	for _, x := range some() {
		want := x.Text
		if x.Kind == 4 {
			want = "'" + want + "'"
		}
		if got := tok.Join(x); got != want {
			t.Errorf("%v: %q", x, got)
		}
		all = append(all, want)
	}
	if tok.Join(some()...) != strings.Join(all, " ") {
		t.Error("all")
	}
}

// P2.2
func TestIs(t *testing.T) {
	for _, x := range some() {
		asked := x.Kind == 1 || x.Kind == 5
		if x.Is(x.Text) != asked || x.Is("other", x.Text) != asked || x.Is(x.Text, "other") != asked {
			t.Error(x)
		}
		if x.Is() || x.Is("other") || x.Is(x.Text+" ") || x.Is("x"+x.Text, strings.ToUpper(x.Text)+"X") {
			t.Error(x, "is what it isn't")
		}
	}
	any := []string{"b", "a", "b"}
	if !(tok.Token{Kind: tok.Word, Text: "a"}).Is(any...) || !slices.Equal(any, []string{"b", "a", "b"}) {
		t.Error(any)
	}
}

// P2.3
func TestMeans(t *testing.T) {
	words := strings.Fields(meaning)
	if len(words) != 27 {
		t.Fatal(len(words))
	}
	for _, w := range words {
		if !tok.Means(w) || tok.Name(w) || !tok.Event(w) {
			t.Error(w)
		}
		near := []string{w[1:], w[:len(w)-1], w + "x", "x" + w, w + w, strings.ToUpper(w), strings.ToUpper(w[:1]) + w[1:], " " + w, w + " ", w + ".", "." + w, w + "." + w, "'" + w + "'", w + "\x00"}
		for _, s := range near {
			if tok.Means(s) != slices.Contains(words, s) {
				t.Errorf("%q", s)
			}
		}
	}
	for _, s := range []string{"", " ", "a", "x", "error", "done", "break", "for", "func", "history", "<=", "12", "''", strings.Repeat("in", 1<<20)} {
		if tok.Means(s) {
			t.Errorf("%q", s)
		}
	}
}

// P2.3
func TestNames(t *testing.T) {
	w16, w17 := strings.Repeat("a", 16), strings.Repeat("a", 17)
	for s, want := range map[string][2]bool{ // an event, a name
		"a": {true, true}, "z": {true, true}, "a_": {true, true}, "a1_b": {true, true}, "iff": {true, true}, "i": {true, true},
		w16: {true, true}, w17: {}, w16[1:] + "_": {true, true}, w16 + "_": {}, w16 + "1": {},
		"a.b": {true, false}, "if.a": {true, false}, "a.in": {true, false}, "a.b.c": {true, false}, "error.execution": {true, false}, "done.state.a": {true, false},
		w16 + "." + w16[1:]: {true, false}, w16 + "." + w16: {}, w17 + ".a": {}, "a." + w17: {}, "a." + w16: {true, false},
		"a.b1.c_.d": {true, false}, strings.Repeat("a.", 15) + "ab": {true, false}, strings.Repeat("a.", 16) + "a": {},
		"": {}, " ": {}, " a": {}, "a ": {}, "a b": {}, " a.b": {}, "a.b ": {}, "a .b": {}, "a. b": {}, "a.": {}, ".a": {}, ".": {}, "a..b": {}, "a.b.": {}, "a.1": {}, "a._": {}, "a.B": {},
		"A": {}, "aB": {}, "_": {}, "_a": {}, "1": {}, "1a": {}, "a-b": {}, "a+": {}, "<": {}, "<=": {}, "'a'": {}, "''": {}, "'": {}, "a'": {}, "a\n": {}, "a\x00": {}, "\xe4": {}, "aä": {}, "ä": {}, "0": {},
		strings.Repeat("a", 1<<20): {}, strings.Repeat("a.", 1<<20) + "a": {}, strings.Repeat("a ", 1<<16): {}, strings.Repeat(" ", 1<<16) + "a": {},
	} {
		if got := [2]bool{tok.Event(s), tok.Name(s)}; got != want {
			t.Errorf("%.60q: %v", s, got)
		}
	}
}

// P2.3
func TestNamesByteByByte(t *testing.T) {
	for b := range 256 {
		s := string([]byte{byte(b)})
		first, further := b >= 'a' && b <= 'z', b >= 'a' && b <= 'z' || b >= '0' && b <= '9' || b == '_'
		if tok.Event(s) != first || tok.Name(s) != first {
			t.Errorf("%q", s)
		}
		if tok.Event("x"+s) != further || tok.Name("x"+s) != further || tok.Event("x"+s+"y") != (further || b == '.') || tok.Name("x"+s+"y") != further {
			t.Errorf("x%q", s)
		}
		if tok.Event("x."+s) != first || tok.Name("x."+s) {
			t.Errorf("x.%q", s)
		}
	}
}

// Beside an error there is nothing else; without one the place is 0.
func TestNothingBesideAnError(t *testing.T) {
	for _, s := range []string{"a b B", "a 01", "1 9223372036854775808", "a 'b' 'c", "a '\n'", "a b.c " + strings.Repeat("d", 17), strings.Repeat("a ", 121)} {
		if l, e, _ := tok.Lex(s); len(l) > 0 || e == api.OK {
			t.Errorf("%.60q: %v %v", s, l, e)
		}
	}
	for _, s := range []string{"", " ", "   ", " a", "a ", "a b ", "  1  'a'  "} {
		if _, e, at := tok.Lex(s); at != 0 || e != api.OK {
			t.Errorf("%q: %v %v", s, e, at)
		}
	}
}

// What is told is new each time.
func TestNewMemory(t *testing.T) {
	line := "set x 'a'"
	l, _, _ := tok.Lex(line)
	for i := range l {
		l[i] = tok.Token{}
	}
	if m, _, _ := tok.Lex(line); tok.Join(m...) != line {
		t.Error(m)
	}
}
