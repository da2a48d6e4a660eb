package act

import (
	"whirligig/api"
	"whirligig/expr"
	"whirligig/tok"
)

// taker takes acts from tokens.
type taker struct {
	l  []tok.Token
	at int
}

// Take is the acts that stand in tokens from a place on, one behind the other, and the place behind them.
func Take(l []tok.Token, from int) ([]Act, int, api.Errno) {
	if from < 0 || from > len(l) {
		return nil, 0, api.ErrForm
	}
	t := taker{l, from}
	var acts []Act
	for {
		if len(acts) == api.MaxActs {
			return nil, 0, api.ErrMany
		}
		a, e := t.act()
		if e != api.OK {
			return nil, 0, e
		}
		acts = append(acts, a)
		if !t.takes(";") {
			return acts, t.at, api.OK
		}
	}
}

// act takes one act.
func (t *taker) act() (Act, api.Errno) {
	var a Act
	if t.takes("if") {
		x, e := t.expression()
		if e != api.OK {
			return Act{}, e
		}
		if !t.takes(":") {
			return Act{}, api.ErrForm
		}
		a.If = x
	}
	kind, ok := t.kind()
	if !ok {
		return Act{}, api.ErrForm
	}
	a.Kind = kind
	if e := t.rest(&a); e != api.OK {
		return Act{}, e
	}
	return a, api.OK
}

// kind takes an act's word; false: none stands there.
func (t *taker) kind() (int, bool) {
	for k := Set; k <= Log; k++ {
		if t.takes(forms[k].word) {
			return k, true
		}
	}
	return 0, false
}

// rest takes what an act has behind its word.
func (t *taker) rest(a *Act) api.Errno {
	f := a.form()
	e := api.OK
	if f.name || f.event {
		a.Name, e = t.name(f)
	}
	if f.x && e == api.OK {
		a.X, e = t.expression()
	}
	if f.n && e == api.OK {
		a.N, e = t.number()
	}
	return e
}

// name takes a name, or an event, whichever is of a form.
func (t *taker) name(f form) (string, api.Errno) {
	if t.at == len(t.l) {
		return "", api.ErrForm
	}
	n := t.l[t.at]
	// A quote may have the text of a name.
	if n.Kind != tok.Word && n.Kind != tok.Path || !f.named(n.Text) {
		return "", api.ErrForm
	}
	t.at++
	return n.Text, api.OK
}

// expression takes an expression.
func (t *taker) expression() (expr.Expr, api.Errno) {
	x, next, e := expr.Parse(t.l, t.at)
	if e != api.OK {
		return nil, e
	}
	t.at = next
	return x, api.OK
}

// number takes a delay.
func (t *taker) number() (int64, api.Errno) {
	if t.at == len(t.l) || t.l[t.at].Kind != tok.Number {
		return 0, api.ErrForm
	}
	n := t.l[t.at].N
	if n > api.MaxDelay {
		return 0, api.ErrRange
	}
	t.at++
	return n, api.OK
}

// takes tells whether a word, or sign, stands there, and goes behind it then.
func (t *taker) takes(word string) bool {
	if t.at == len(t.l) || !t.l[t.at].Is(word) {
		return false
	}
	t.at++
	return true
}
