package line

import (
	"whirligig/act"
	"whirligig/api"
	"whirligig/expr"
	"whirligig/tok"
	"whirligig/val"
)

// reader reads a line's tokens, from the left.
type reader struct {
	l  []tok.Token
	at int
}

// Parse is the line that a text is.
func Parse(s string) (Line, api.Errno) {
	l, e, _ := tok.Lex(s)
	if e != api.OK {
		return Line{}, e
	}
	r := reader{l: l}
	kind, ok := r.kind()
	if !ok {
		return Line{}, api.ErrWord
	}
	n := Line{Kind: kind}
	if e := r.rest(&n); e != api.OK {
		return Line{}, e
	}
	if r.at < len(l) {
		return Line{}, api.ErrForm
	}
	return n, api.OK
}

// kind reads a line's first word; false: that is none which a line begins with.
func (r *reader) kind() (int, bool) {
	for k := Chart; k <= End; k++ {
		if r.takes(words[k]) {
			return k, true
		}
	}
	return 0, false
}

// rest reads what a line of a kind has behind its word.
func (r *reader) rest(n *Line) api.Errno {
	switch n.Kind {
	case End:
		return api.OK
	case Enter, Exit:
		return r.acts(&n.Do)
	case On:
		if !r.event(n) {
			return api.ErrForm
		}
		return r.trans(n)
	case Auto:
		return r.trans(n)
	}
	if !r.named(n) {
		return api.ErrForm
	}
	return api.OK
}

// named reads a name, and what a line of a kind has behind it.
func (r *reader) named(n *Line) bool {
	name, ok := r.name()
	if !ok {
		return false
	}
	n.Name = name
	switch n.Kind {
	case Var:
		n.V, ok = r.value()
	case Chart, State:
		n.Start, _ = r.name() // it may be left out
	case Deep, Shallow:
		n.Start, ok = r.name()
	}
	return ok
}

// event reads the event of a transition, which may be any one.
func (r *reader) event(n *Line) bool {
	t := r.next()
	// A quote may have the text of an event.
	named := (t.Kind == tok.Word || t.Kind == tok.Path) && act.Event(t.Text)
	if !named && !t.Is(Any) {
		return false
	}
	n.Event = t.Text
	r.at++
	return true
}

// trans reads what a transition has behind its event.
func (r *reader) trans(n *Line) api.Errno {
	e := api.OK
	if r.takes("if") {
		e = r.expression(&n.If)
	}
	if e == api.OK && r.takes("go") {
		e = r.targets(&n.Goes)
	}
	if e != api.OK {
		return e
	}
	n.Inner = r.takes("inner")
	if r.takes("do") {
		return r.acts(&n.Trans.Do)
	}
	return api.OK
}

// targets reads names, one at least, as many as there are.
func (r *reader) targets(l *[]string) api.Errno {
	for {
		name, ok := r.name()
		switch {
		case !ok && len(*l) == 0:
			return api.ErrForm
		case !ok:
			return api.OK
		case len(*l) == api.MaxTargets:
			return api.ErrMany
		}
		*l = append(*l, name)
	}
}

// name reads a name; false: none stands there.
func (r *reader) name() (string, bool) {
	t := r.next()
	if t.Kind != tok.Word || tok.Means(t.Text) {
		return "", false
	}
	r.at++
	return t.Text, true
}

// value reads a value; false: none stands there.
func (r *reader) value() (val.Value, bool) {
	below := r.takes("-")
	var v val.Value
	switch t := r.next(); {
	case t.Kind == tok.Number && below:
		v = val.Of(-t.N)
	case t.Kind == tok.Number:
		v = val.Of(t.N)
	case below:
		return val.Value{}, false
	case t.Kind == tok.Quote:
		v = val.Word(t.Text)
	case t.Is("true", "false"):
		v = val.Truth(t.Is("true"))
	default:
		return val.Value{}, false
	}
	r.at++
	return v, true
}

// expression reads an expression.
func (r *reader) expression(x *expr.Expr) api.Errno {
	y, next, e := expr.Parse(r.l, r.at)
	if e == api.OK {
		*x, r.at = y, next
	}
	return e
}

// acts reads acts, one behind the other.
func (r *reader) acts(l *[]act.Act) api.Errno {
	acts, next, e := act.Take(r.l, r.at)
	if e == api.OK {
		*l, r.at = acts, next
	}
	return e
}

// takes tells whether a word, or sign, stands there, and goes behind it then.
func (r *reader) takes(word string) bool {
	if !r.next().Is(word) {
		return false
	}
	r.at++
	return true
}

// next is the token that stands there; one of no kind, if none does.
func (r *reader) next() tok.Token {
	if r.at == len(r.l) {
		return tok.Token{}
	}
	return r.l[r.at]
}
