package expr

import (
	"whirligig/api"
	"whirligig/tok"
	"whirligig/val"
)

// open is a parenthesis among the operations that wait: it holds nothing that stands beside it.
const open = -1

// reader reads an expression. What waits stands in lists, not in calls within calls: parentheses may nest deeper than those could.
type reader struct {
	l      []tok.Token
	at     int
	nodes  Expr
	parts  []int // the last nodes of the parts that no operation has yet
	wait   []int // the operations, and parentheses, that something is still to come behind
	within int   // how many of those are parentheses
}

// Parse is the expression that stands in tokens from a place on, and behind it.
func Parse(l []tok.Token, from int) (Expr, int, api.Errno) {
	if from < 0 || from > len(l) {
		return nil, 0, api.ErrForm
	}
	r := reader{l: l, at: from}
	if !r.whole() {
		return nil, 0, api.ErrForm
	}
	if e := r.nodes.Size(); e != api.OK {
		return nil, 0, e
	}
	return r.nodes, r.at, api.OK
}

// Read is the expression that a text is.
func Read(s string) (Expr, api.Errno) {
	l, e, _ := tok.Lex(s)
	if e != api.OK {
		return nil, e
	}
	x, next, e := Parse(l, 0)
	if e != api.OK {
		return nil, e
	}
	if next < len(l) {
		return nil, api.ErrForm
	}
	return x, api.OK
}

// whole reads as much as is an expression; false: something that must stand there doesn't.
func (r *reader) whole() bool {
	for r.one() {
		if !r.more() {
			r.finish(loosest)
			return r.within == 0
		}
	}
	return false
}

// one reads an atom, with all that stands on it, and with the parentheses that end behind it.
func (r *reader) one() bool {
	for r.ahead() {
	}
	if !r.atom() {
		return false
	}
	for r.within > 0 && r.takes(")") {
		r.finish(loosest)
		r.wait = r.wait[:len(r.wait)-1]
		r.within--
	}
	return true
}

// ahead reads one of what may stand ahead of an atom.
func (r *reader) ahead() bool {
	switch {
	case r.takes(signs[val.Not]):
		r.wait = append(r.wait, val.Not)
	case r.takes(signs[val.Neg]):
		r.wait = append(r.wait, val.Neg)
	case r.takes("("):
		r.wait = append(r.wait, open)
		r.within++
	default:
		return false
	}
	return true
}

// atom reads a name, a value, or what asks for a state.
func (r *reader) atom() bool {
	if r.takes("in") {
		return r.takes("(") && r.name(In) && r.takes(")")
	}
	return r.name(Var) || r.value()
}

// name reads a name, which is a node of a kind.
func (r *reader) name(op int) bool {
	if r.at == len(r.l) || r.l[r.at].Kind != tok.Word || tok.Means(r.l[r.at].Text) {
		return false
	}
	r.add(Node{Op: op, Name: r.l[r.at].Text})
	r.at++
	return true
}

// value reads a value.
func (r *reader) value() bool {
	if r.at == len(r.l) {
		return false
	}
	var v val.Value
	switch t := r.l[r.at]; {
	case t.Kind == tok.Number:
		v = val.Of(t.N)
	case t.Kind == tok.Quote:
		v = val.Word(t.Text)
	case t.Is("true", "false"):
		v = val.Truth(t.Is("true"))
	default:
		return false
	}
	r.add(Node{V: v})
	r.at++
	return true
}

// more reads an operation that has its first part now, and waits for its second one.
func (r *reader) more() bool {
	op, ok := r.between()
	if !ok {
		return false
	}
	r.finish(left(op))
	// What is compared is no part of what is compared, but in parentheses.
	if n := len(r.wait); n > 0 && tight(r.wait[n-1]) == tight(op) {
		return false
	}
	r.wait = append(r.wait, op)
	r.at++
	return true
}

// between is the operation of two parts whose sign stands there; false: none does.
func (r *reader) between() (int, bool) {
	if r.at == len(r.l) {
		return 0, false
	}
	for op := val.Mul; op <= val.Or; op++ {
		if r.l[r.at].Is(signs[op]) {
			return op, true
		}
	}
	return 0, false
}

// finish makes nodes of the last operations that wait, as long as they hold their parts so tightly.
func (r *reader) finish(least int) {
	for n := len(r.wait); n > 0 && tight(r.wait[n-1]) >= least; n-- {
		op := r.wait[n-1]
		first := len(r.parts) - count(op)
		node := operation(op, r.parts[first:])
		r.wait, r.parts = r.wait[:n-1], r.parts[:first]
		r.add(node)
	}
}

// add puts a node behind the others: it is a part now that no operation has.
func (r *reader) add(n Node) {
	r.parts = append(r.parts, len(r.nodes))
	r.nodes = append(r.nodes, n)
}

// takes tells whether a word, or sign, stands there, and goes behind it then.
func (r *reader) takes(word string) bool {
	if r.at == len(r.l) || !r.l[r.at].Is(word) {
		return false
	}
	r.at++
	return true
}
