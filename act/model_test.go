package act_test

import (
	"slices"
	"strconv"
	"strings"

	"whirligig/act"
	"whirligig/api"
	"whirligig/dice"
	"whirligig/expr"
	"whirligig/tok"
)

// grammar is what may stand behind an act's condition, word by word, by the acts' kinds.
var grammar = []string{1: "set name any", 2: "raise event", 3: "send event number", 4: "cancel event", 5: "log any"}

// rules takes what stands in tokens, word by word; it panics with an error where something is missing.
type rules struct {
	l  []tok.Token
	at int
}

// next is the token that is there; none has the kind 0.
func (r *rules) next() tok.Token {
	if r.at < len(r.l) {
		return r.l[r.at]
	}
	return tok.Token{}
}

// sees tells whether a word or a sign is there.
func (r *rules) sees(s string) bool {
	k := r.next().Kind
	return (k == 1 || k == 5) && r.next().Text == s
}

// must takes what a rule's word stands for.
func (r *rules) must(word string, a *act.Act, x *expr.Expr) {
	n := r.next()
	fail := api.OK
	switch word {
	case "any":
		y, next, e := expr.Parse(r.l, r.at)
		if e != api.OK {
			panic(e)
		}
		*x, r.at = y, next
		return
	case "name":
		if n.Kind != 1 || !tok.Name(n.Text) {
			fail = api.ErrForm
		}
		a.Name = n.Text
	case "event":
		if n.Kind != 2 && (n.Kind != 1 || !tok.Name(n.Text)) {
			fail = api.ErrForm
		}
		a.Name = n.Text
	case "number":
		if n.Kind != 3 {
			fail = api.ErrForm
		} else if n.N > 1048576 {
			fail = api.ErrRange
		}
		a.N = n.N
	default:
		if !r.sees(word) {
			fail = api.ErrForm
		}
	}
	if fail != api.OK {
		panic(fail)
	}
	r.at++
}

// one takes an act.
func (r *rules) one() act.Act {
	var a act.Act
	if r.sees("if") {
		for _, w := range []string{"if", "any", ":"} {
			r.must(w, &a, &a.If)
		}
	}
	a.Kind = slices.IndexFunc(grammar, func(s string) bool { return s != "" && r.sees(strings.Fields(s)[0]) })
	if a.Kind < 0 {
		panic(api.ErrForm)
	}
	for _, w := range strings.Fields(grammar[a.Kind]) {
		r.must(w, &a, &a.X)
	}
	return a
}

// expected is what Take should tell.
func expected(l []tok.Token, from int) (acts []act.Act, next int, e api.Errno) {
	if from < 0 || from > len(l) {
		return nil, 0, api.ErrForm
	}
	defer func() {
		if f, ok := recover().(api.Errno); ok {
			acts, next, e = nil, 0, f
		}
	}()
	r := rules{l, from}
	acts = append(acts, r.one())
	for r.sees(";") {
		r.at++
		if len(acts) >= 8 {
			return nil, 0, api.ErrMany
		}
		acts = append(acts, r.one())
	}
	return acts, r.at, api.OK
}

// line is an act's text, by the document's words, whatever it has.
func line(a act.Act) string {
	s := ""
	if len(a.If) > 0 {
		s = "if " + a.If.Show() + " : "
	}
	switch a.Kind {
	case 1:
		return s + "set " + a.Name + " " + a.X.Show()
	case 2:
		return s + "raise " + a.Name
	case 3:
		return s + "send " + a.Name + " " + strconv.FormatInt(a.N, 10)
	case 4:
		return s + "cancel " + a.Name
	case 5:
		return s + "log " + a.X.Show()
	}
	return s
}

// may tells whether an act may be: if its text is taken, and is just it.
func may(a act.Act) bool {
	l, e, _ := tok.Lex(line(a))
	if e != api.OK {
		return false
	}
	acts, next, e := expected(l, 0)
	return e == api.OK && next == len(l) && len(acts) == 1 && same(acts[0], a)
}

// same tells whether two acts are one, with nil and empty lists one.
func same(a, b act.Act) bool {
	return a.Kind == b.Kind && slices.Equal(a.If, b.If) && a.Name == b.Name && slices.Equal(a.X, b.X) && a.N == b.N
}

// chance makes texts, and what they stand for, by chance.
type chance struct{ dice.Dice }

// value is an expression's text, of so many levels at most, with parentheses that needn't be.
func (c *chance) value(levels int) string {
	switch k := c.Below(6); {
	case levels == 0 || k == 0:
		return c.Pick("a", "b_1", "0", "77", "''", "'set x ; : '", "true", "false", "in(s)")
	case k == 1:
		return "(" + c.value(levels-1) + ")"
	case k == 2:
		return c.Pick("-", "not ", "---", "not not ") + c.value(levels-1)
	}
	return c.value(levels-1) + c.Pick("+", " - ", "*", "/", "%", "<", "<=", ">", ">=", " = ", "!=", " or ", " and ") + c.value(levels-1)
}

// event is an event's text.
func (c *chance) event() string {
	return c.Pick("e", "e.a", "set.x", "error.execution", "x_1", "if.if")
}

// one is an act's text.
func (c *chance) one(levels int) string {
	s := ""
	if c.Below(3) == 0 {
		s = "if " + c.value(c.Below(levels+1)) + c.Pick(":", " :", " : ")
	}
	switch c.Below(5) {
	case 0:
		return s + "set " + c.Pick("x", "setx", "y_2") + " " + c.value(c.Below(levels+1))
	case 1:
		return s + "raise " + c.event()
	case 2:
		return s + "send " + c.event() + " " + c.Pick("0", "1", "1048575", "1048576", strconv.Itoa(c.Below(1048577)))
	case 3:
		return s + "cancel " + c.event()
	}
	return s + "log " + c.value(c.Below(levels+1))
}

// some is so many acts' text.
func (c *chance) some(n, levels int) string {
	l := make([]string, n)
	for i := range l {
		l[i] = c.one(levels)
	}
	return strings.Join(l, c.Pick(";", " ;", " ; "))
}

// lex is a line's tokens, of which it is known that they are right.
func lex(line string) []tok.Token {
	l, e, _ := tok.Lex(line)
	if e != api.OK {
		panic(line)
	}
	return l
}

// read is an expression of which it is known that it is right.
func read(s string) expr.Expr {
	x, e := expr.Read(s)
	if e != api.OK {
		panic(s)
	}
	return x
}

// times is a text so many times.
func times(n int, s string) string { return strings.Repeat(s, n) }
