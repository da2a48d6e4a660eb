package expr_test

import (
	"slices"
	"strings"
	"testing"

	"whirligig/api"
	"whirligig/expr"
	"whirligig/tok"
	"whirligig/val"
)

// holds holds what Parse tells against what it should tell; it answers whether there is an expression.
func holds(t *testing.T, l []tok.Token, from int) bool {
	t.Helper()
	was := slices.Clone(l)
	x, next, e := expr.Parse(l, from)
	want, wantNext, wantE := expected(l, from)
	if !slices.Equal(x, want) || next != wantNext || e != wantE {
		t.Fatalf("%q from %d: %v %d %d, not %v %d %d", tok.Join(l...), from, x, next, e, want, wantNext, wantE)
	}
	if e == api.OK && (!x.Right() || x.Size() != api.OK) {
		t.Fatalf("%q: not right", tok.Join(l...))
	}
	if !slices.Equal(l, was) {
		t.Fatal("tokens changed")
	}
	return e == api.OK
}

// P3.1: all rows of a few tokens, from all places.
func TestParseShort(t *testing.T) {
	signs := lex("a 1 true in ( ) not - * < and ;")
	found := 0
	var goOn func(l []tok.Token)
	goOn = func(l []tok.Token) {
		if holds(t, l, 0) {
			found++
		}
		if len(l) == 5 {
			return
		}
		for _, s := range signs {
			goOn(append(l[:len(l):len(l)], s))
		}
	}
	goOn(nil)
	if found < 10000 {
		t.Error("only", found)
	}
}

// P3.1: long rows of tokens, most of which are expressions, some too great, some with one token that is another one.
func TestParseLong(t *testing.T) {
	all := lex("a if a.b 1 'x' true false in ( ) not - + * / % < <= > >= = != and or ; :")
	found := map[api.Errno]int{}
	c := chance{1}
	for range 20000 {
		s := times(c.Below(8), "-") + c.some(c.Below(8))
		for range c.Below(5) {
			s += " + " + c.some(c.Below(4))
		}
		l, e, _ := tok.Lex(s)
		if e != api.OK {
			continue
		}
		from := 0
		switch c.Below(4) {
		case 0:
			l[c.Below(len(l))] = all[c.Below(len(all))]
		case 1:
			l = l[:c.Below(len(l))]
		case 2:
			from = c.Below(len(l)+3) - 1
		}
		holds(t, l, from)
		_, _, e = expr.Parse(l, from)
		found[e]++
	}
	for _, e := range []api.Errno{api.OK, api.ErrForm, api.ErrMany, api.ErrDeep} {
		if found[e] < 200 {
			t.Error(found)
		}
	}
}

// P3.1: an expression ends where no rule takes what stands there.
func TestParseEnds(t *testing.T) {
	for line, want := range map[string]int{
		"a": 1, "a b": 1, "a )": 1, "a ; b": 1, "a if b": 1, "a < b < c": 3, "a < b + c = d": 5, "a and b < c < d": 5,
		"(a < b) < c ; d": 7, "a < (b < c) < d": 7, "a (": 1, "a not b": 1, "a in (b)": 1, "a : b": 1, "(a) (b)": 3, "1 2": 1, "a a.b": 1,
		"in(a) in(b)": 4, "-a - -b": 5, "not a true": 2,
	} {
		l := lex(line)
		if _, next, e := expr.Parse(l, 0); e != api.OK || next != want {
			t.Error(line, next, e)
		}
		holds(t, l, 0)
	}
}

// P3.1: places beyond the tokens, and behind all of them.
func TestParseFrom(t *testing.T) {
	l := lex("a + b")
	for from, want := range map[int]api.Errno{-1 << 63: api.ErrForm, -1: api.ErrForm, 0: api.OK, 1: api.ErrForm, 2: api.OK, 3: api.ErrForm, 4: api.ErrForm, 1<<63 - 1: api.ErrForm} {
		if x, next, e := expr.Parse(l, from); e != want || e != api.OK && (len(x) != 0 || next != 0) || e == api.OK && next != 3 {
			t.Error(from, x, next, e)
		}
	}
	if _, _, e := expr.Parse(nil, 0); e != api.ErrForm {
		t.Error(e)
	}
}

// P3.1: limits; what isn't there is told ahead of what is too great, and how many there are ahead of how deep it is.
func TestParseLimits(t *testing.T) {
	sum := func(n int) string { // n numbers, in a sum as flat as it can be
		l := slices.Repeat([]string{"1"}, n)
		for len(l) > 1 {
			var next []string
			for p := range slices.Chunk(l, 2) {
				next = append(next, "("+strings.Join(p, "+")+")")
			}
			l = next
		}
		return l[0]
	}
	for s, want := range map[string]api.Errno{
		sum(16):                               api.OK,
		"-(" + sum(16) + ")":                  api.OK,
		"--(" + sum(16) + ")":                 api.ErrMany,
		sum(17):                               api.ErrMany,
		sum(17) + "+":                         api.ErrForm,
		sum(17) + "<1<":                       api.ErrMany,
		sum(17) + ")":                         api.ErrMany,
		"(" + sum(17):                         api.ErrForm,
		times(7, "-") + "a":                   api.OK,
		times(8, "-") + "a":                   api.ErrDeep,
		times(8, "-") + "a+":                  api.ErrForm,
		times(8, "-") + "a b":                 api.ErrDeep,
		times(31, "-") + "a":                  api.ErrDeep,
		times(32, "-") + "a":                  api.ErrMany,
		times(50, "(") + "a":                  api.ErrForm,
		"1" + times(7, "*1"):                  api.OK,
		"1" + times(8, "*1"):                  api.ErrDeep,
		times(7, "1+(") + "1":                 api.ErrForm,
		times(7, "not (1+") + "1":             api.ErrForm,
		times(59, "(") + "a)":                 api.ErrForm,
		times(8, "(-") + "a":                  api.ErrForm,
		"a+'" + times(49, "x") + "'":          api.ErrLong,
		"a+'" + times(48, "x") + "'":          api.OK,
		"a<b<99999999999999999999":            api.ErrOver,
		times(121, "a "):                      api.ErrMany,
		times(120, "a "):                      api.ErrForm,
		"a ;":                                 api.ErrForm,
		"a #":                                 api.ErrForm,
		"(":                                   api.ErrForm,
		"in (a":                               api.ErrForm,
		"in (a b)":                            api.ErrForm,
		"in (in)":                             api.ErrForm,
		"in ('a')":                            api.ErrForm,
		"in (a.b)":                            api.ErrForm,
		"in ((a))":                            api.ErrForm,
		"()":                                  api.ErrForm,
		"a or or b":                           api.ErrForm,
		"or":                                  api.ErrForm,
		"a not":                               api.ErrForm,
		"+a":                                  api.ErrForm,
		"state":                               api.ErrForm,
		times(59, "(") + "a" + times(59, ")"): api.OK,
	} {
		x, e := expr.Read(s)
		if e != want || (e == api.OK) != (len(x) > 0) {
			t.Error(s, x, e)
		}
		if l, e, _ := tok.Lex(s); e == api.OK {
			holds(t, l, 0)
		}
	}
}

// P3.1: however deep parentheses nest, the call ends.
func TestParseDeep(t *testing.T) {
	const n = 1 << 20
	var l []tok.Token
	for _, s := range []string{"(", "-", "a", ")"} {
		m := n
		if s == "a" {
			m = 1
		}
		l = append(l, slices.Repeat(lex(s), m)...)
	}
	if x, next, e := expr.Parse(l, 0); len(x) != 0 || next != 0 || e != api.ErrMany {
		t.Error(len(x), next, e)
	}
	if x, next, e := expr.Parse(l, n); len(x) != 0 || next != 0 || e != api.ErrMany {
		t.Error(len(x), next, e)
	}
	if x, next, e := expr.Parse(l[:n], 0); len(x) != 0 || next != 0 || e != api.ErrForm {
		t.Error(len(x), next, e)
	}
	l = slices.Delete(l, n, 2*n)
	if x, next, e := expr.Parse(l, 0); !slices.Equal(x, expr.Expr{{Op: expr.Var, Name: "a"}}) || next != 2*n+1 || e != api.OK {
		t.Error(len(x), next, e)
	}
}

// P3.1: nodes, in their order, of which each kind has just what is its own.
func TestNodes(t *testing.T) {
	x, e := expr.Read("not in(s) or -a % 2 >= b and 'q' != (true = false)")
	want := expr.Expr{
		{Op: expr.In, Name: "s"}, {Op: val.Not, L: 0},
		{Op: expr.Var, Name: "a"}, {Op: val.Neg, L: 2}, {V: val.Of(2)}, {Op: val.Rem, L: 3, R: 4}, {Op: expr.Var, Name: "b"}, {Op: val.AtLeast, L: 5, R: 6},
		{V: val.Word("q")}, {V: val.Truth(true)}, {V: val.Truth(false)}, {Op: val.Same, L: 9, R: 10}, {Op: val.Unlike, L: 8, R: 11},
		{Op: val.And, L: 7, R: 12}, {Op: val.Or, L: 1, R: 13},
	}
	if e != api.OK || !slices.Equal(x, want) {
		t.Error(x, e)
	}
}

// P3.1: an answer is new, each time.
func TestParseNew(t *testing.T) {
	l := lex("a + b")
	x, _, _ := expr.Parse(l, 0)
	y, _, _ := expr.Parse(l, 0)
	x[0].Name = "c"
	if y[0].Name != "a" || l[0].Text != "a" {
		t.Error(y, l)
	}
}
