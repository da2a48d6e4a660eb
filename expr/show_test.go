package expr_test

import (
	"slices"
	"strings"
	"testing"

	"whirligig/api"
	"whirligig/expr"
	"whirligig/tok"
	"whirligig/val"
)

// pairs are the places of each two parentheses of a text that belong together, but those of in.
func pairs(s string) [][2]int {
	var l [][2]int
	var open []int
	quoted := false
	for i := range s {
		switch {
		case s[i] == '\'':
			quoted = !quoted
		case quoted:
		case s[i] == '(':
			open = append(open, i)
		case s[i] == ')':
			at := open[len(open)-1]
			open = open[:len(open)-1]
			if !strings.HasSuffix(s[:at], "in") {
				l = append(l, [2]int{at, i})
			}
		}
	}
	return l
}

// P3.2: what is shown is read again, and not one pair of its parentheses could be left out.
func TestShowLeast(t *testing.T) {
	c := chance{2}
	shown, needed := 0, 0
	for range 20000 {
		s := c.some(c.Below(6))
		x, e := expr.Read(s)
		if e != api.OK {
			continue
		}
		shown++
		text := x.Show()
		if y, e := expr.Read(text); e != api.OK || !slices.Equal(x, y) {
			t.Fatal(s, text, e)
		}
		for _, p := range pairs(text) {
			needed++
			less := text[:p[0]] + " " + text[p[0]+1:p[1]] + " " + text[p[1]+1:]
			if y, e := expr.Read(less); e == api.OK && slices.Equal(x, y) {
				t.Fatal(text, "is", less)
			}
		}
		if want := spaced(tok.Join(lex(text)...)); text != want {
			t.Fatal(text, want)
		}
	}
	if shown < 10000 || needed < 5000 {
		t.Error(shown, needed)
	}
}

// spaced is a text of tokens that all have blanks between them, without those that aren't shown.
func spaced(s string) string {
	words := strings.Split(s, " ")
	var b strings.Builder
	quoted := false
	for i, w := range words {
		if i > 0 {
			last := words[i-1]
			sign := last == "-" && !quoted && (i == 1 || strings.Contains(" ( not and or < <= > >= = != + - * / % ", " "+words[i-2]+" "))
			if quoted || !sign && last != "(" && w != ")" && !(last == "in" && w == "(") {
				b.WriteByte(' ')
			}
		}
		b.WriteString(w)
		if strings.Count(w, "'")%2 == 1 {
			quoted = !quoted
		}
	}
	return b.String()
}

// P3.2: each two operations, with and without parentheses.
func TestShowPairs(t *testing.T) {
	level := map[string]int{"or": 1, "and": 2, "<": 3, "<=": 3, ">": 3, ">=": 3, "=": 3, "!=": 3, "+": 4, "-": 4, "*": 5, "/": 5, "%": 5}
	for a, m := range level {
		for b, n := range level {
			first, second := "(x "+a+" y) "+b+" z", "x "+a+" (y "+b+" z)"
			wantFirst, wantSecond := first, second
			if m > n || m == n && m != 3 {
				wantFirst = "x " + a + " y " + b + " z"
			}
			if n > m {
				wantSecond = "x " + a + " y " + b + " z"
			}
			for s, want := range map[string]string{first: wantFirst, second: wantSecond} {
				if x, e := expr.Read(s); e != api.OK || x.Show() != want {
					t.Error(s, x.Show(), e)
				}
			}
		}
		for _, sign := range []string{"not ", "-"} {
			for _, s := range []string{sign + "(x " + a + " y)", sign + "x " + a + " " + sign + sign + "y", sign + "(" + sign + "(x " + a + " " + sign + "y) " + a + " z)"} {
				if x, e := expr.Read(s); e != api.OK || x.Show() != s {
					t.Error(s, x.Show(), e)
				}
			}
		}
	}
}

// P3.2: each kind of atom, the document's example, and nothing of none.
func TestShowAtoms(t *testing.T) {
	for s, want := range map[string]string{
		"(a+1)*2 < b and not in(s)": "(a + 1) * 2 < b and not in(s)",
		"( ( 'a  -(' ) )":           "'a  -('",
		"''":                        "''",
		"in ( in_1 )":               "in(in_1)",
		"true or( false )":          "true or false",
		"- ( 0 )":                   "-0",
		"-(-(9223372036854775807))": "--9223372036854775807",
		"not-not(-a)":               "not -not -a",
		"a- -b":                     "a - -b",
		"a-(-(b-c))":                "a - -(b - c)",
	} {
		if x, e := expr.Read(s); e != api.OK || x.Show() != want {
			t.Error(s, x.Show(), e)
		}
	}
	if s := (expr.Expr{}).Show() + expr.Expr(nil).Show(); s != "" {
		t.Error(s)
	}
	if e := expr.Expr(nil).Size(); e != api.OK {
		t.Error(e)
	}
}

// may tells whether an expression may be: if there is a text of which the rules take it.
func may(x expr.Expr) bool {
	var texts []string
	for _, n := range x {
		k := len(texts)
		signs := []string{1: "not", 2: "-", 3: "*", 4: "/", 5: "%", 6: "+", 7: "-", 8: "<", 9: "<=", 10: ">", 11: ">=", 12: "=", 13: "!=", 14: "and", 15: "or"}
		switch {
		case n.Op == 0 && n.V.Right():
			texts = append(texts, n.V.Show())
		case n.Op == 16:
			texts = append(texts, n.Name)
		case n.Op == 17:
			texts = append(texts, "in("+n.Name+")")
		case n.Op >= 1 && n.Op <= 2 && k >= 1:
			texts = append(texts[:k-1], signs[n.Op]+"("+texts[k-1]+")")
		case n.Op >= 3 && n.Op <= 15 && k >= 2:
			texts = append(texts[:k-2], "("+texts[k-2]+")"+signs[n.Op]+"("+texts[k-1]+")")
		default:
			return false
		}
	}
	if len(texts) != 1 {
		return false
	}
	l, e, _ := tok.Lex(texts[0])
	if e != api.OK {
		return false
	}
	y, next, e := expected(l, 0)
	return e == api.OK && next == len(l) && slices.Equal(x, y)
}

// P3.2: all of up to three small nodes.
func TestRightShort(t *testing.T) {
	var nodes []expr.Node
	for _, op := range []int{0, 1, 6, 16, 17} {
		for _, v := range []val.Value{{}, val.Of(0), val.Truth(true)} {
			for _, name := range []string{"", "a"} {
				for l := range 2 {
					for r := range 3 {
						nodes = append(nodes, expr.Node{Op: op, V: v, Name: name, L: l, R: r - 1})
					}
				}
			}
		}
	}
	right := 0
	var goOn func(x expr.Expr)
	goOn = func(x expr.Expr) {
		want := may(x)
		if x.Right() != want {
			t.Fatal(x, want)
		}
		if want {
			right++
		}
		if len(x) == 2 {
			for _, n := range nodes {
				if n.V == (val.Value{}) && n.Name == "" || n.Op == 0 || n.Op > 15 {
					if y := append(x[:2:2], n); y.Right() != may(y) {
						t.Fatal(y, may(y))
					}
				}
			}
			return
		}
		for _, n := range nodes {
			goOn(append(x[:len(x):len(x)], n))
		}
	}
	goOn(nil)
	if right < 5 {
		t.Error(right)
	}
}

// P3.2: right expressions, with one thing of one node that is another one.
func TestRightChanged(t *testing.T) {
	values := []val.Value{{}, val.Of(0), val.Of(-1), val.Of(5), val.Word(""), val.Word("a"), val.Word("'"), val.Word(times(49, "x")), val.Truth(true), val.Truth(false), {Kind: 2, N: 2}, {Kind: 1, S: "a"}, {Kind: 4}, {N: 1}, {Kind: -1 << 63}}
	names := []string{"", "a", "s2", "if", "A", "a.b", "a ", "1", times(16, "n"), times(17, "n"), "in", "not", "+"}
	numbers := []int{-1 << 63, -1, 0, 1, 2, 3, 7, 14, 15, 16, 17, 18, 1<<63 - 1}
	c := chance{3}
	right, wrong := 0, 0
	for range 30000 {
		x, e := expr.Read(c.some(c.Below(6)))
		if e != api.OK {
			continue
		}
		n := &x[c.Below(len(x))]
		switch c.Below(7) {
		case 0:
			n.Op = numbers[c.Below(len(numbers))]
		case 1:
			n.L = numbers[c.Below(len(numbers))]
		case 2:
			n.R = numbers[c.Below(len(numbers))]
		case 3:
			n.V = values[c.Below(len(values))]
		case 4:
			n.Name = names[c.Below(len(names))]
		case 5:
			x = x[:c.Below(len(x)+1)]
		case 6:
			*n = x[c.Below(len(x))]
		}
		want := may(x)
		if x.Right() != want {
			t.Fatal(x, want)
		}
		x.Size()
		if text := x.Show(); want && text == "" {
			t.Fatal(x)
		}
		if want {
			right++
		} else {
			wrong++
		}
	}
	if right < 2000 || wrong < 10000 {
		t.Error(right, wrong)
	}
}

// tower is a literal with so many Negs on it.
func tower(n int) expr.Expr {
	x := expr.Expr{{V: val.Of(1)}}
	for i := range n {
		x = append(x, expr.Node{Op: val.Neg, L: i})
	}
	return x
}

// P3.2: how many nodes there are is told ahead of how deep they are; what is too great may not be.
func TestSize(t *testing.T) {
	wide := func(n int) expr.Expr { // n literals, added two by two
		x := expr.Expr(nil)
		var add func(n int) int
		add = func(n int) int {
			if n == 1 {
				x = append(x, expr.Node{V: val.Of(1)})
				return len(x) - 1
			}
			l := add(n / 2)
			r := add(n - n/2)
			x = append(x, expr.Node{Op: val.Add, L: l, R: r})
			return len(x) - 1
		}
		add(n)
		return x
	}
	for _, c := range []struct {
		x    expr.Expr
		want api.Errno
	}{
		{tower(0), api.OK}, {tower(7), api.OK}, {tower(8), api.ErrDeep}, {tower(31), api.ErrDeep}, {tower(32), api.ErrMany},
		{wide(16), api.OK}, {append(wide(16), expr.Node{Op: val.Neg, L: 30}), api.OK}, {wide(17), api.ErrMany}, {wide(1000), api.ErrMany},
	} {
		if e := c.x.Size(); e != c.want {
			t.Error(len(c.x), e, c.want)
		}
		if c.want != api.OK && c.x.Right() {
			t.Error(len(c.x), "is right")
		}
	}
	// The second part alone may be too deep, or the first one.
	for _, s := range []string{"1+" + times(7, "-") + "1", times(7, "-") + "1+1"} {
		if _, e := expr.Read(s); e != api.ErrDeep {
			t.Error(s, e)
		}
	}
}

// P3.2: of whatever nodes, each call ends.
func TestWild(t *testing.T) {
	numbers := []int{-1 << 63, -1, 0, 1, 2, 6, 15, 16, 17, 18, 30, 1<<63 - 1}
	c := chance{4}
	for range 20000 {
		x := make(expr.Expr, c.Below(40))
		for i := range x {
			x[i] = expr.Node{Op: numbers[c.Below(len(numbers))], L: c.Below(40) - 1, R: numbers[c.Below(len(numbers))]}
		}
		x.Right()
		x.Size()
		x.Show()
	}
	double := make(expr.Expr, 1<<20)
	for i := range double {
		double[i] = expr.Node{Op: val.Add, L: i - 1, R: i - 1}
	}
	if double.Right() || double.Size() != api.ErrMany {
		t.Error("so many")
	}
	double.Show()
	double[:32].Show()
}

// P3.2: nodes that are looked at stay as they are.
func TestLooked(t *testing.T) {
	x, _ := expr.Read("(a + 1) * 2 < b and not in(s)")
	was := slices.Clone(x)
	x.Right()
	x.Size()
	x.Show()
	if !slices.Equal(x, was) {
		t.Error(x)
	}
}
