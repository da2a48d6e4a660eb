package expr

import "whirligig/val"

// The operations' signs, by their numbers.
var signs = [...]string{
	val.Not: "not", val.Neg: "-",
	val.Mul: "*", val.Div: "/", val.Rem: "%", val.Add: "+", val.Sub: "-",
	val.Less: "<", val.AtMost: "<=", val.More: ">", val.AtLeast: ">=", val.Same: "=", val.Unlike: "!=",
	val.And: "and", val.Or: "or",
}

// How tightly nodes hold their parts, from the loosest on; single is what hasn't two of them.
const (
	loosest = 1 + iota
	joint
	compared
	summed
	multiplied
	single
)

// tight is how tightly a node holds its parts.
func tight(op int) int {
	switch op {
	case open:
		return 0
	case val.Or:
		return loosest
	case val.And:
		return joint
	case val.Less, val.AtMost, val.More, val.AtLeast, val.Same, val.Unlike:
		return compared
	case val.Add, val.Sub:
		return summed
	case val.Mul, val.Div, val.Rem:
		return multiplied
	}
	return single
}

// left is how tightly the first part of an operation of two must hold together, to stand there without parentheses.
func left(op int) int {
	if tight(op) == compared {
		return compared + 1
	}
	return tight(op)
}

// Show is an expression as a text.
func (e Expr) Show() string {
	// A text of nodes that aren't an expression's might never end.
	if !e.Right() {
		return ""
	}
	texts := make([]string, len(e))
	for i, n := range e {
		texts[i] = e.show(n, texts)
	}
	return texts[len(e)-1]
}

// show is a node as a text; those of the nodes ahead of it are there.
func (e Expr) show(n Node, texts []string) string {
	part := func(at, least int) string {
		if tight(e[at].Op) < least {
			return "(" + texts[at] + ")"
		}
		return texts[at]
	}
	switch n.Op {
	case Lit:
		return n.V.Show()
	case Var:
		return n.Name
	case In:
		return "in(" + n.Name + ")"
	case val.Not:
		return "not " + part(n.L, single)
	case val.Neg:
		return "-" + part(n.L, single)
	}
	return part(n.L, left(n.Op)) + " " + signs[n.Op] + " " + part(n.R, tight(n.Op)+1)
}
