package line_test

import (
	"math/big"
	"slices"
	"strings"

	"whirligig/act"
	"whirligig/api"
	"whirligig/dice"
	"whirligig/expr"
	"whirligig/line"
	"whirligig/tok"
	"whirligig/val"
)

// grammar is what a line has, word by word: a question mark is behind what may be missing, with all up to the dot.
var grammar = []string{
	1: "chart name start? .", 2: "var name value", 3: "state name start? .", 4: "parallel name", 5: "final name", 6: "deep name start", 7: "shallow name start",
	8: "enter acts", 9: "exit acts", 10: "on event trans", 11: "auto trans", 12: "end",
}

const trans = "if? any . go? goes . inner? . do? does ."

// rules takes what stands in tokens, word by word; it panics with an error where something is missing.
type rules struct {
	l []tok.Token
	n line.Line
}

// next is the kind of the token that is there, 0 of none, and its text.
func (r *rules) next() (int, string) {
	if len(r.l) == 0 {
		return 0, ""
	}
	return r.l[0].Kind, r.l[0].Text
}

// sees tells whether what a rule's word stands for begins there.
func (r *rules) sees(word string) bool {
	k, s := r.next()
	switch word {
	case "name", "start":
		return k == 1 && tok.Name(s)
	case "event":
		return k == 2 || k == 1 && tok.Name(s) || k == 5 && s == "*"
	}
	return (k == 1 || k == 5) && s == word
}

// fail is how an error is told.
func fail(e api.Errno) {
	if e != api.OK {
		panic(e)
	}
}

// must takes what a rule's word stands for.
func (r *rules) must(word string) {
	switch word {
	case "value":
		r.value()
	case "any":
		x, next, e := expr.Parse(r.l, 0)
		fail(e)
		r.n.If, r.l = x, r.l[next:]
	case "acts", "does":
		a, next, e := act.Take(r.l, 0)
		fail(e)
		r.l = r.l[next:]
		if word == "acts" {
			r.n.Do = a
		} else {
			r.n.Trans.Do = a
		}
	case "goes":
		r.goes()
	case "trans":
		r.all(trans)
	default:
		r.single(word)
	}
}

// single takes a token.
func (r *rules) single(word string) {
	if !r.sees(word) {
		panic(api.ErrForm)
	}
	s := r.l[0].Text
	switch word {
	case "name":
		r.n.Name = s
	case "start":
		r.n.Start = s
	case "event":
		r.n.Event = s
	case "inner":
		r.n.Inner = true
	}
	r.l = r.l[1:]
}

// goes takes names of states.
func (r *rules) goes() {
	end := slices.IndexFunc(r.l, func(t tok.Token) bool { return t.Kind != 1 || !tok.Name(t.Text) })
	if end < 0 {
		end = len(r.l)
	}
	switch {
	case end == 0:
		panic(api.ErrForm)
	case end > 4:
		panic(api.ErrMany)
	}
	for _, t := range r.l[:end] {
		r.n.Goes = append(r.n.Goes, t.Text)
	}
	r.l = r.l[end:]
}

// value takes a value, by the text that it is shown by.
func (r *rules) value() {
	s := ""
	for i := range min(2, len(r.l)) {
		s += tok.Join(r.l[i])
		if s == "-0" {
			s = "0"
		}
		if v, e := val.Read(s); e == api.OK {
			r.n.V, r.l = v, r.l[i+1:]
			return
		}
	}
	panic(api.ErrForm)
}

// all takes what a rule has.
func (r *rules) all(rule string) {
	words := strings.Fields(rule)
	for i := 0; i < len(words); i++ {
		word, may := strings.CutSuffix(words[i], "?")
		if may && !r.sees(word) {
			i += slices.Index(words[i:], ".")
			continue
		}
		if word != "." {
			r.must(word)
		}
	}
}

// expected is what Parse should tell.
func expected(s string) (n line.Line, e api.Errno) {
	l, e, _ := tok.Lex(s)
	if e != api.OK {
		return n, e
	}
	r := rules{l: l}
	kind := slices.IndexFunc(grammar, func(g string) bool { return g != "" && r.sees(strings.Fields(g)[0]) })
	if kind < 0 {
		return n, api.ErrWord
	}
	defer func() {
		if f, ok := recover().(api.Errno); ok {
			n, e = line.Line{}, f
		}
	}()
	r.n.Kind = kind
	r.all(grammar[kind])
	if len(r.l) > 0 {
		return line.Line{}, api.ErrForm
	}
	return r.n, api.OK
}

// shown is how a line that may be should be shown.
func shown(n line.Line) string {
	var b strings.Builder
	add := func(there bool, l ...string) {
		for _, s := range l {
			if there {
				b.WriteString(s + " ")
			}
		}
	}
	add(true, strings.Fields(grammar[n.Kind])[0])
	add(n.Name != "", n.Name)
	add(n.Start != "", n.Start)
	switch n.V.Kind {
	case val.Int:
		add(true, big.NewInt(n.V.N).String())
	case val.Bool:
		add(n.V.N == 1, "true")
		add(n.V.N == 0, "false")
	case val.Text:
		add(true, "'"+n.V.S+"'")
	}
	if len(n.Do) > 0 {
		add(true, act.Show(n.Do...))
	}
	add(n.Event != "", n.Event)
	if len(n.If) > 0 {
		add(true, "if", n.If.Show())
	}
	add(len(n.Goes) > 0, "go")
	add(true, n.Goes...)
	add(n.Inner, "inner")
	if len(n.Trans.Do) > 0 {
		add(true, "do", act.Show(n.Trans.Do...))
	}
	return strings.TrimSuffix(b.String(), " ")
}

// same tells whether two lines are one, with nil and empty lists one.
func same(a, b line.Line) bool {
	return a.Kind == b.Kind && a.Name == b.Name && a.Start == b.Start && a.V == b.V && acts(a.Do, b.Do) && a.Event == b.Event &&
		slices.Equal(a.If, b.If) && slices.Equal(a.Goes, b.Goes) && a.Inner == b.Inner && acts(a.Trans.Do, b.Trans.Do)
}

// acts tells whether two lists of acts are one.
func acts(a, b []act.Act) bool {
	return slices.EqualFunc(a, b, func(x, y act.Act) bool {
		return x.Kind == y.Kind && slices.Equal(x.If, y.If) && x.Name == y.Name && slices.Equal(x.X, y.X) && x.N == y.N
	})
}

// chance makes texts, and what they stand for, by chance.
type chance struct{ dice.Dice }

func (c *chance) name() string { return c.Pick("a", "b_1", "iff", "goes", times(16, "n")) }

// expression is an expression's text, of so many levels at most.
func (c *chance) expression(levels int) string {
	if levels == 0 || c.Below(4) == 0 {
		return c.Pick("x", "7", "'if a go b'", "true", "in(s)", "(x)", "-1")
	}
	return c.Pick("", "not ", "-") + "(" + c.expression(levels-1) + c.Pick("+", " and ", "<", "*", " or ") + c.expression(levels-1) + ")"
}

// acts is the text of a few acts, now and then of too many.
func (c *chance) acts() string {
	l := make([]string, 1+c.Below(3)*c.Below(6))
	for i := range l {
		l[i] = c.Maybe("if "+c.expression(1)+":") + c.Pick("set x "+c.expression(1), "raise e.f", "send e 5", "cancel go.on", "log 'do'", "send e "+c.Pick("0", "1048576", "1048576", "1048577"))
	}
	return strings.Join(l, c.Pick(";", " ; "))
}

// trans is what a transition has behind its event, as a text.
func (c *chance) trans() string {
	s := c.Maybe(" if " + c.expression(c.Below(8)))
	if c.Below(3) > 0 {
		s += " go"
		for range 1 + c.Below(5) {
			s += c.Pick(" ", "  ") + c.name()
		}
	}
	return s + c.Maybe(" inner") + c.Maybe(" do "+c.acts())
}

// line is a line's text.
func (c *chance) line() string {
	switch word := strings.Fields(grammar[1+c.Below(12)])[0]; word {
	case "chart", "state":
		return word + " " + c.name() + c.Maybe(" "+c.name())
	case "var":
		return word + " " + c.name() + c.Pick(" 0", " -0", "-7", " - 9223372036854775807", " 9223372036854775807", " true", " false", " 'true'", "''", " ' a  b'")
	case "parallel", "final":
		return word + " " + c.name()
	case "deep", "shallow":
		return word + " " + c.name() + " " + c.name()
	case "enter", "exit":
		return word + " " + c.acts()
	case "on":
		return word + " " + c.Pick("*", "e.f", "go.do", c.name()) + c.trans()
	case "auto":
		return word + c.trans()
	default:
		return word
	}
}

// lex is a line's tokens, of which it is known that they are right.
func lex(s string) []tok.Token {
	l, e, _ := tok.Lex(s)
	if e != api.OK {
		panic(s)
	}
	return l
}

// read is an expression of which it is known that it is right.
func read(s string) expr.Expr {
	x, e := expr.Read(s)
	if e != api.OK {
		panic(s)
	}
	return x
}

// take is acts of which it is known that they are right.
func take(s string) []act.Act {
	l, _, e := act.Take(lex(s), 0)
	if e != api.OK {
		panic(s)
	}
	return l
}

// times is a text so many times.
func times(n int, s string) string { return strings.Repeat(s, n) }
