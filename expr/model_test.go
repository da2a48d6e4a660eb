package expr_test

import (
	"strings"

	"whirligig/api"
	"whirligig/dice"
	"whirligig/expr"
	"whirligig/tok"
	"whirligig/val"
)

// tree is an expression as the rules have it, with its parts within it.
type tree struct {
	node expr.Node
	of   []*tree
}

// nodes are a tree's nodes, each behind those of its parts.
func (t *tree) nodes(l expr.Expr) expr.Expr {
	n := t.node
	for i, part := range t.of {
		l = part.nodes(l)
		if i == 0 {
			n.L = len(l) - 1
		} else {
			n.R = len(l) - 1
		}
	}
	return append(l, n)
}

// depth is how deep a tree is.
func (t *tree) depth() int {
	d := 0
	for _, part := range t.of {
		d = max(d, part.depth())
	}
	return d + 1
}

// rules takes what stands in tokens, rule by rule, each in a call of its own; it panics where something is missing.
type rules struct {
	l  []tok.Token
	at int
}

func (r *rules) next() string {
	if r.at == len(r.l) || r.l[r.at].Kind != tok.Word && r.l[r.at].Kind != tok.Sign {
		return ""
	}
	return r.l[r.at].Text
}

func (r *rules) must(s string) {
	if r.next() != s {
		panic(api.ErrForm)
	}
	r.at++
}

func (r *rules) many(ops map[string]int, rule func() *tree, most int) *tree {
	t := rule()
	for ; most != 0 && ops[r.next()] != 0; most-- {
		op := ops[r.next()]
		r.at++
		t = &tree{expr.Node{Op: op}, []*tree{t, rule()}}
	}
	return t
}

func (r *rules) any() *tree { return r.many(map[string]int{"or": 15}, r.all, -1) }
func (r *rules) all() *tree { return r.many(map[string]int{"and": 14}, r.cmp, -1) }
func (r *rules) cmp() *tree {
	return r.many(map[string]int{"<": 8, "<=": 9, ">": 10, ">=": 11, "=": 12, "!=": 13}, r.sum, 1)
}
func (r *rules) sum() *tree { return r.many(map[string]int{"+": 6, "-": 7}, r.product, -1) }
func (r *rules) product() *tree {
	return r.many(map[string]int{"*": 3, "/": 4, "%": 5}, r.one, -1)
}

func (r *rules) one() *tree {
	if op := map[string]int{"not": 1, "-": 2}[r.next()]; op != 0 {
		r.at++
		return &tree{expr.Node{Op: op}, []*tree{r.one()}}
	}
	return r.atom()
}

func (r *rules) name(op int) *tree {
	if r.at == len(r.l) || !tok.Name(r.l[r.at].Text) || r.l[r.at].Kind != tok.Word {
		panic(api.ErrForm)
	}
	r.at++
	return &tree{node: expr.Node{Op: op, Name: r.l[r.at-1].Text}}
}

func (r *rules) value(v val.Value) *tree {
	r.at++
	return &tree{node: expr.Node{V: v}}
}

func (r *rules) atom() *tree {
	switch r.next() {
	case "true":
		return r.value(val.Truth(true))
	case "false":
		return r.value(val.Truth(false))
	case "in":
		r.at++
		r.must("(")
		t := r.name(17)
		r.must(")")
		return t
	case "(":
		r.at++
		t := r.any()
		r.must(")")
		return t
	}
	if r.at < len(r.l) && r.l[r.at].Kind == tok.Number {
		return r.value(val.Of(r.l[r.at].N))
	}
	if r.at < len(r.l) && r.l[r.at].Kind == tok.Quote {
		return r.value(val.Word(r.l[r.at].Text))
	}
	return r.name(16)
}

// expected is what Parse should tell.
func expected(l []tok.Token, from int) (x expr.Expr, next int, e api.Errno) {
	if from < 0 || from > len(l) {
		return nil, 0, api.ErrForm
	}
	defer func() {
		if f, ok := recover().(api.Errno); ok {
			x, next, e = nil, 0, f
		}
	}()
	r := rules{l, from}
	t := r.any()
	switch x = t.nodes(nil); {
	case len(x) > 32:
		return nil, 0, api.ErrMany
	case t.depth() > 8:
		return nil, 0, api.ErrDeep
	}
	return x, r.at, api.OK
}

// chance makes texts, and what they stand for, by chance.
type chance struct{ dice.Dice }

// some is an expression's text, of so many levels at most, with parentheses that needn't be.
func (c *chance) some(levels int) string {
	leaves := []string{"a", "b_1", "0", "7", "9223372036854775807", "''", "'a (b'", "true", "false", "in(s)", "in ( t )"}
	ops := []string{"or", "and", "<", "<=", ">", ">=", "=", "!=", "+", "-", "*", "/", "%"}
	k := c.Below(10)
	switch {
	case levels == 0 || k == 0:
		return leaves[c.Below(len(leaves))]
	case k == 1:
		return "(" + c.some(levels-1) + ")"
	case k == 2:
		return "-" + c.some(levels-1)
	case k == 3:
		return "not " + c.some(levels-1)
	}
	s := c.some(levels-1) + " " + ops[c.Below(len(ops))] + " " + c.some(levels-1)
	if c.Below(3) == 0 {
		return "(" + s + ")"
	}
	return s
}

// lex is a line's tokens, of which it is known that they are right.
func lex(line string) []tok.Token {
	l, e, _ := tok.Lex(line)
	if e != api.OK {
		panic(line)
	}
	return l
}

// times is a text so many times.
func times(n int, s string) string { return strings.Repeat(s, n) }
