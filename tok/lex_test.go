package tok_test

import (
	"math/big"
	"regexp"
	"slices"
	"strings"
	"testing"

	"whirligig/api"
	"whirligig/dice"
	"whirligig/tok"
)

// The tokens' bytes, where their limits are left aside.
var (
	wordForm   = regexp.MustCompile(`^[a-z][a-z0-9_]*(\.[a-z][a-z0-9_]*)*`)
	numberForm = regexp.MustCompile(`^[0-9]+`)
	quoteForm  = regexp.MustCompile(`^'([^']*)'`)
	signForm   = regexp.MustCompile(`^([<>!]=|[();:+\-*/%<>=])`)
	textForm   = regexp.MustCompile(`^[ -&(-~]{0,48}$`)
)

// first is the token with which a text begins, how many bytes it has, and the error that should be told of it.
func first(s string) (tok.Token, int, api.Errno) {
	bad := func(e api.Errno) (tok.Token, int, api.Errno) { return tok.Token{}, 0, e }
	if w := wordForm.FindString(s); w != "" {
		x := tok.Token{Kind: 1, Text: w}
		for _, part := range strings.Split(w, ".") {
			if len(part) > 16 || len(w) > 32 {
				return bad(api.ErrLong)
			}
		}
		if strings.Contains(w, ".") {
			x.Kind = 2
		}
		return x, len(w), api.OK
	}
	if d := numberForm.FindString(s); d != "" {
		n, _ := new(big.Int).SetString(d, 10)
		switch {
		case n.String() != d:
			return bad(api.ErrForm)
		case !n.IsInt64():
			return bad(api.ErrOver)
		}
		return tok.Token{Kind: 3, Text: d, N: n.Int64()}, len(d), api.OK
	}
	if s[0] == '\'' {
		q := quoteForm.FindString(s)
		switch {
		case q == "":
			return bad(api.ErrShort)
		case len(q) > 50:
			return bad(api.ErrLong)
		case !textForm.MatchString(q[1 : len(q)-1]):
			return bad(api.ErrForm)
		}
		return tok.Token{Kind: 4, Text: q[1 : len(q)-1]}, len(q), api.OK
	}
	if g := signForm.FindString(s); g != "" {
		return tok.Token{Kind: 5, Text: g}, len(g), api.OK
	}
	return bad(api.ErrForm)
}

// expected is what Lex should tell.
func expected(line string) ([]tok.Token, api.Errno, int) {
	var l []tok.Token
	for at := 0; at < len(line); {
		if line[at] == ' ' {
			at++
			continue
		}
		if len(l) == 120 {
			return nil, api.ErrMany, at
		}
		x, n, e := first(line[at:])
		if e != api.OK {
			return nil, e, at
		}
		x.At = at
		l, at = append(l, x), at+n
	}
	return l, api.OK, 0
}

// hold holds what Lex tells of a line against what it should tell, and joins the tokens.
func hold(t *testing.T, line string) {
	t.Helper()
	l, e, at := tok.Lex(line)
	want, wantE, wantAt := expected(line)
	if !slices.Equal(l, want) || e != wantE || at != wantAt {
		t.Errorf("%.200q: %v %v %v, not %v %v %v", line, l, e, at, want, wantE, wantAt)
	}
	again, e, at := tok.Lex(tok.Join(l...))
	for i := range l {
		l[i].At = 0
	}
	for i := range again {
		again[i].At = 0
	}
	if !slices.Equal(l, again) || e != api.OK || at != 0 {
		t.Errorf("%.200q, joined: %v %v %v", line, again, e, at)
	}
}

// P2.1
func TestLexOrdinary(t *testing.T) {
	for s, want := range map[string][]tok.Token{
		"x1<=a.b":     {{Kind: 1, Text: "x1"}, {Kind: 5, Text: "<=", At: 2}, {Kind: 2, Text: "a.b", At: 4}},
		"chart c":     {{Kind: 1, Text: "chart"}, {Kind: 1, Text: "c", At: 6}},
		"12ab":        {{Kind: 3, Text: "12", N: 12}, {Kind: 1, Text: "ab", At: 2}},
		"'a''b'c'd'":  {{Kind: 4, Text: "a"}, {Kind: 4, Text: "b", At: 3}, {Kind: 1, Text: "c", At: 6}, {Kind: 4, Text: "d", At: 7}},
		"''":          {{Kind: 4}},
		"-1":          {{Kind: 5, Text: "-"}, {Kind: 3, Text: "1", N: 1, At: 1}},
		"<>=<==>":     {{Kind: 5, Text: "<"}, {Kind: 5, Text: ">=", At: 1}, {Kind: 5, Text: "<=", At: 3}, {Kind: 5, Text: "=", At: 5}, {Kind: 5, Text: ">", At: 6}},
		"< =":         {{Kind: 5, Text: "<"}, {Kind: 5, Text: "=", At: 2}},
		"   a   ":     {{Kind: 1, Text: "a", At: 3}},
		"0":           {{Kind: 3, Text: "0"}},
		"a+b":         {{Kind: 1, Text: "a"}, {Kind: 5, Text: "+", At: 1}, {Kind: 1, Text: "b", At: 2}},
		"if.in 'not'": {{Kind: 2, Text: "if.in"}, {Kind: 4, Text: "not", At: 6}},
		"":            nil,
		"  ":          nil,
	} {
		if l, e, at := tok.Lex(s); !slices.Equal(l, want) || e != api.OK || at != 0 {
			t.Errorf("%q: %v %v %v", s, l, e, at)
		}
		hold(t, s)
	}
}

// P2.1
func TestLexSigns(t *testing.T) {
	all := []string{"<=", ">=", "!=", "(", ")", ";", ":", "+", "-", "*", "/", "%", "<", ">", "="}
	for _, s := range all {
		if l, e, at := tok.Lex(s); !slices.Equal(l, []tok.Token{{Kind: tok.Sign, Text: s}}) || e != api.OK || at != 0 {
			t.Error(s, l, e, at)
		}
	}
	for a := range 256 {
		for b := range 256 {
			hold(t, string([]byte{byte(a), byte(b)}))
		}
	}
}

// P2.1
func TestLexWrong(t *testing.T) {
	for s, want := range map[string]struct {
		e  api.Errno
		at int
	}{
		"A": {api.ErrForm, 0}, "_a": {api.ErrForm, 0}, "a B": {api.ErrForm, 2}, "aB": {api.ErrForm, 1}, ".a": {api.ErrForm, 0}, "a.": {api.ErrForm, 1}, "a.b.": {api.ErrForm, 3}, "a..b": {api.ErrForm, 1}, "a.1": {api.ErrForm, 1}, "a._b": {api.ErrForm, 1}, "a .b": {api.ErrForm, 2}, "1.5": {api.ErrForm, 1},
		"!": {api.ErrForm, 0}, "a ! =": {api.ErrForm, 2}, "a,b": {api.ErrForm, 1}, "a\tb": {api.ErrForm, 1}, "a\n": {api.ErrForm, 1}, "a\r": {api.ErrForm, 1}, "\u00a0a": {api.ErrForm, 0}, "\x00": {api.ErrForm, 0}, "ä": {api.ErrForm, 0}, `"a"`: {api.ErrForm, 0}, "a # b": {api.ErrForm, 2}, "１": {api.ErrForm, 0},
		"00": {api.ErrForm, 0}, "01": {api.ErrForm, 0}, "a 007": {api.ErrForm, 2}, "-01": {api.ErrForm, 1}, "0" + strings.Repeat("9", 40): {api.ErrForm, 0},
		"9223372036854775808": {api.ErrOver, 0}, " 10000000000000000000": {api.ErrOver, 1}, "18446744073709551617": {api.ErrOver, 0}, "1" + strings.Repeat("0", 1000): {api.ErrOver, 0}, "-9223372036854775808": {api.ErrOver, 1},
		"'": {api.ErrShort, 0}, "'a": {api.ErrShort, 0}, "'a''": {api.ErrShort, 3}, "a '": {api.ErrShort, 2}, "'" + strings.Repeat("\n", 99): {api.ErrShort, 0},
		"'" + strings.Repeat("a", 49) + "'": {api.ErrLong, 0}, "a '" + strings.Repeat("\n", 49) + "'": {api.ErrLong, 2}, "'" + strings.Repeat("ä", 25) + "'": {api.ErrLong, 0},
		"'\n'": {api.ErrForm, 0}, "a 'b\x7f'": {api.ErrForm, 2}, "'" + strings.Repeat("a", 47) + "\x1f'": {api.ErrForm, 0}, "'ä'": {api.ErrForm, 0}, "'\xff' B": {api.ErrForm, 0},
		"01 B": {api.ErrForm, 0}, "B 01": {api.ErrForm, 0}, "'a' 00 'b": {api.ErrForm, 4}, "'a 00 9999999999999999999": {api.ErrShort, 0}, "1 99999999999999999999 'a": {api.ErrOver, 2},
	} {
		if l, e, at := tok.Lex(s); len(l) > 0 || e != want.e || at != want.at {
			t.Errorf("%.60q: %v %v %v", s, l, e, at)
		}
		hold(t, s)
	}
}

// P2.1
func TestLexLongWords(t *testing.T) {
	one := func(n int) string { return "z" + strings.Repeat("9", n-1) }
	for n := 1; n < 40; n++ {
		want := api.OK
		if n > 16 {
			want = api.ErrLong
		}
		for _, s := range []string{one(n), one(n) + " ", one(n) + "=", "a." + one(n)} {
			if _, e, at := tok.Lex(s); e != want || at != 0 {
				t.Error(s, e, at)
			}
			hold(t, "b "+s)
		}
		for m := 1; m < 40; m++ {
			want := want
			if m > 16 || n+1+m > 32 {
				want = api.ErrLong
			}
			if _, e, at := tok.Lex(one(n) + "." + one(m)); e != want || at != 0 {
				t.Error(n, m, e, at)
			}
			hold(t, "b "+one(n)+"."+one(m)+".c")
			hold(t, one(n)+"."+one(m)+". B")
		}
	}
	// A dot that doesn't belong to the word doesn't make it longer.
	if _, e, at := tok.Lex(one(16) + "." + one(15) + "."); e != api.ErrForm || at != 32 {
		t.Error(e, at)
	}
	hold(t, strings.Repeat("a", 1<<20))
	hold(t, strings.Repeat("a.", 1<<20))
}

// P2.1
func TestLexNumbers(t *testing.T) {
	for _, s := range []string{"0", "1", "9", "10", "100", "1048576", "9223372036854775806", "9223372036854775807"} {
		l, e, at := tok.Lex(" " + s + " ")
		n, _ := new(big.Int).SetString(s, 10)
		if !slices.Equal(l, []tok.Token{{Kind: tok.Number, Text: s, N: n.Int64(), At: 1}}) || e != api.OK || at != 0 {
			t.Error(s, l, e, at)
		}
		for _, x := range []string{s + s, "0" + s, s + "0", s + "a", s + "_", s + ".1", "a" + s, s + "'" + s + "'", s + " " + s} {
			hold(t, x)
		}
	}
	hold(t, strings.Repeat("9", 1<<16))
	hold(t, strings.Repeat("0", 1<<16))
}

// P2.1
func TestLexQuotes(t *testing.T) {
	for b := range 256 {
		c := string([]byte{byte(b)})
		for _, s := range []string{"'" + c + "'", "'a" + c + "b' c", c + "'a'", "'a'" + c, "'" + c + strings.Repeat("a", 47) + "'", "'" + c + strings.Repeat("a", 48) + "'", "'" + c} {
			hold(t, s)
		}
	}
	for n := range 60 {
		for _, c := range []string{" ", "~", "A", "\n", "ä"} {
			hold(t, "x '"+strings.Repeat(c, n)+"' y")
			hold(t, "x '"+strings.Repeat(c, n))
		}
	}
}

// P2.1
func TestLexMany(t *testing.T) {
	wrong := []string{"B", "01", "9223372036854775808", "'a", "'\n'", "!", strings.Repeat("a", 17), "'" + strings.Repeat("a", 49) + "'"}
	for _, x := range []string{"a", "a.b", "7", "''", "(", "<="} {
		for n := 117; n < 124; n++ {
			row := strings.Repeat(x+" ", n)
			l, e, at := tok.Lex(row)
			if n <= 120 && (len(l) != n || e != api.OK || at != 0) || n > 120 && (len(l) > 0 || e != api.ErrMany || at != 120*(len(x)+1)) {
				t.Error(x, n, len(l), e, at)
			}
			for _, w := range wrong {
				_, _, own := first(w)
				if n >= 120 {
					own = api.ErrMany
				}
				if l, e, at := tok.Lex(row + w); len(l) > 0 || e != own || at != (len(x)+1)*min(n, 120) {
					t.Errorf("%d times %q, %.60q: %v %v %v", n, x, w, l, e, at)
				}
				hold(t, w+row)
			}
			hold(t, "  "+row+"   ")
		}
	}
	hold(t, strings.Repeat("(", 120))
	hold(t, strings.Repeat("(", 121))
	hold(t, strings.Repeat("(", 1<<20))
}

// P2.1, P2.2
func TestLexShortLines(t *testing.T) {
	letters := "az.01_ '<=!-B\n"
	var try func(s string, left int)
	try = func(s string, left int) {
		hold(t, s)
		for i := 0; left > 0 && i < len(letters); i++ {
			try(s+letters[i:i+1], left-1)
		}
	}
	try("", 4)
}

// P2.1, P2.2
func TestLexLongerLines(t *testing.T) {
	pieces := []string{" ", "  ", "a", "if", "state", "abcdefgh", "z_9", ".", ".b", "0", "7", "10", "9223372036854775807", "99999", "'", "''", "'a b'", "'abcdefghijklmnopqrstuvwxyz'", "<", "=", ">", "!=", "!", "(", ")", ";", ":", "+", "-", "*", "/", "%", "B", "\x7f"}
	d := dice.Dice(1)
	for range 40000 {
		var b strings.Builder
		most := len(pieces)
		if d.Below(4) > 0 {
			most -= 2 // lines without the bytes that no token has come further
		}
		for range d.Below(60) {
			b.WriteString(pieces[d.Below(most)])
			if d.Below(3) > 0 {
				b.WriteByte(' ')
			}
		}
		hold(t, b.String())
	}
}
