package kind_test

import (
	"whirligig/api"
	"whirligig/dice"
	"whirligig/expr"
	"whirligig/kind"
)

// tree is an expression with its parts within it: a leaf's text, or an operation's sign.
type tree struct {
	text string
	of   []*tree
}

// line is a tree's text, with all parentheses.
func (t *tree) line() string {
	switch len(t.of) {
	case 1:
		return t.text + " (" + t.of[0].line() + ")"
	case 2:
		return "(" + t.of[0].line() + ") " + t.text + " (" + t.of[1].line() + ")"
	}
	return t.text
}

// leaves are the leaves' kinds, by their texts, in the scope of names.
var leaves = map[string]int{
	"n": 1, "b": 2, "t": 3, "m": 0, "s": 0, "both": 1, "0": 1, "9223372036854775807": 1, "''": 3, "'n'": 3, "true": 2, "false": 2,
	"in(s)": 2, "in(both)": 2, "in(n)": 0, "in(m)": 0,
}

// names is a scope in which some names are there twice, and one is both a variable's and a state's.
func names() kind.Scope {
	return kind.Scope{
		Vars:   []kind.Var{{Name: "n", Kind: 1}, {Name: "both", Kind: 1}, {Name: "t", Kind: 3}, {Name: "n", Kind: 3}, {Name: "b", Kind: 2}, {Name: "b", Kind: 1}, {Name: "n", Kind: 2}},
		States: []string{"s", "both", "s"},
	}
}

// results are the kinds of what comes of two of one kind each, by the operations' signs; of different kinds nothing comes.
var results = map[string][4]int{
	"*": {1: 1}, "/": {1: 1}, "%": {1: 1}, "-": {1: 1}, "+": {1: 1, 3: 3},
	"<": {1: 2, 3: 2}, "<=": {1: 2, 3: 2}, ">": {1: 2, 3: 2}, ">=": {1: 2, 3: 2},
	"=": {1: 2, 2: 2, 3: 2}, "!=": {1: 2, 2: 2, 3: 2}, "and": {2: 2}, "or": {2: 2},
}

// kind is what Of should tell of a tree: all of the first part is looked at ahead of the second one.
func (t *tree) kind() (int, api.Errno) {
	if len(t.of) == 0 {
		if leaves[t.text] == 0 {
			return 0, api.ErrName
		}
		return leaves[t.text], api.OK
	}
	first, e := t.of[0].kind()
	if e != api.OK {
		return 0, e
	}
	k := 0
	if len(t.of) == 1 {
		k = map[string][4]int{"not": {2: 2}, "-": {1: 1}}[t.text][first]
	} else {
		second, e := t.of[1].kind()
		if e != api.OK {
			return 0, e
		}
		if first == second {
			k = results[t.text][first]
		}
	}
	if k == 0 {
		return 0, api.ErrType
	}
	return k, api.OK
}

// chance makes texts, and what they stand for, by chance.
type chance struct{ dice.Dice }

// some is a tree of so many levels at most, of which most parts are of the kind that is asked for.
func (c *chance) some(k, levels int) *tree {
	if c.Below(40) == 0 {
		k = c.Below(4)
	}
	if levels == 0 || c.Below(4) == 0 {
		return &tree{text: dice.One(&c.Dice, [][]string{{"m", "s", "in(n)", "in(m)"}, {"n", "both", "0", "9223372036854775807"}, {"b", "true", "false", "in(s)", "in(both)"}, {"t", "''", "'n'"}}[k])}
	}
	sign, part := "+", k
	switch k {
	case 1:
		sign = dice.One(&c.Dice, []string{"*", "/", "%", "-", "+"})
	case 2:
		sign = dice.One(&c.Dice, []string{"and", "or", "=", "!=", "<", "<=", ">", ">="})
		part = map[string][]int{"and": {2, 2, 2}, "or": {2, 2, 2}, "=": {1, 2, 3}, "!=": {1, 2, 3}, "<": {1, 3, 3}, "<=": {1, 1, 3}, ">": {1, 3, 3}, ">=": {1, 1, 3}}[sign][c.Below(3)]
	}
	if c.Below(4) == 0 && (k == 1 || k == 2) {
		return &tree{[]string{1: "-", 2: "not"}[k], []*tree{c.some(k, levels-1)}}
	}
	return &tree{sign, []*tree{c.some(part, levels-1), c.some(part, levels-1)}}
}

// read is the expression that a text is, of which it is known that it is one.
func read(s string) expr.Expr {
	x, e := expr.Read(s)
	if e != api.OK {
		panic(s)
	}
	return x
}
