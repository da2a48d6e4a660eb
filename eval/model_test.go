package eval_test

import (
	"math/big"
	"strconv"

	"whirligig/api"
	"whirligig/dice"
	"whirligig/eval"
	"whirligig/expr"
	"whirligig/val"
)

// part is an expression's text, and what it should come to: a *big.Int, a bool, a string, or an api.Errno. Idle: some second part played no part in it, which tells an error by itself.
type part struct {
	text string
	v    any
	idle bool
}

// signs are the signs of what is reckoned of two.
var signs = []string{"*", "/", "%", "+", "-", "<", "<=", ">", ">=", "=", "!=", "and", "or"}

// leaves are parts without operations, in the environment of names, by what they come to: nothing, a number, a truth, a text.
var leaves = [4][]part{
	{{text: "m", v: api.ErrName}, {text: "lit", v: api.ErrName}},
	{whole("0", 0), whole("1", 1), whole("9223372036854775807", 1<<63-1), whole("n", 0), whole("k", 7), whole("least", -1<<63), whole("both", -3)},
	{{text: "true", v: true}, {text: "false", v: false}, {text: "yes", v: true}, {text: "no", v: false}, {text: "in(lit)", v: true}, {text: "in(both)", v: true}, {text: "in(n)", v: false}, {text: "in(m)", v: false}},
	{{text: "''", v: ""}, {text: "'n'", v: "n"}, {text: "t", v: half}, {text: "u", v: half + "y"}},
}

// half is a text of which two are as long as one may be.
const half = "xxxxxxxxxxxxxxxxxxxxxxxx"

// names is an environment in which some names are there twice, and one is both a variable's and a state's.
func names() eval.Env {
	return eval.Env{
		Vars: []eval.Cell{
			{Name: "n", V: val.Of(0)}, {Name: "k", V: val.Of(7)}, {Name: "n", V: val.Of(5)}, {Name: "least", V: val.Of(-1 << 63)}, {Name: "both", V: val.Of(-3)},
			{Name: "yes", V: val.Truth(true)}, {Name: "no", V: val.Truth(false)}, {Name: "yes", V: val.Word("no")}, {Name: "t", V: val.Word(half)}, {Name: "u", V: val.Word(half + "y")}, {Name: "k", V: val.Truth(false)},
		},
		In: []string{"both", "lit", "both"},
	}
}

// whole is a part that is a number.
func whole(text string, n int64) part { return part{text: text, v: big.NewInt(n)} }

// failed tells whether a part comes to an error.
func (p part) failed() bool {
	_, ok := p.v.(api.Errno)
	return ok
}

// one is an operation of one part.
func one(sign string, a part) part {
	p := part{text: sign + " (" + a.text + ")", v: api.ErrType, idle: a.idle}
	switch x := a.v.(type) {
	case api.Errno:
		p.v = x
	case *big.Int:
		if sign == "-" {
			p.v = bounded(new(big.Int).Neg(x))
		}
	case bool:
		if sign == "not" {
			p.v = !x
		}
	}
	return p
}

// two is an operation of two parts.
func two(sign string, a, b part) part {
	p := part{text: "(" + a.text + ") " + sign + " (" + b.text + ")", idle: a.idle || b.idle}
	switch {
	case a.failed():
		p.v, p.idle = a.v, a.idle
	case sign == "and" && a.v == false, sign == "or" && a.v == true:
		p.v, p.idle = a.v, a.idle || b.failed()
	case b.failed():
		p.v = b.v
	default:
		p.v = come(sign, a.v, b.v)
	}
	return p
}

// come is what comes of two values.
func come(sign string, a, b any) any {
	switch x := a.(type) {
	case *big.Int:
		if y, ok := b.(*big.Int); ok {
			return number(sign, x, y)
		}
	case bool:
		if y, ok := b.(bool); ok {
			return truth(sign, x, y)
		}
	case string:
		if y, ok := b.(string); ok {
			return text(sign, x, y)
		}
	}
	return api.ErrType
}

// number is what comes of two numbers.
func number(sign string, x, y *big.Int) any {
	n := new(big.Int)
	switch sign {
	case "*":
		return bounded(n.Mul(x, y))
	case "+":
		return bounded(n.Add(x, y))
	case "-":
		return bounded(n.Sub(x, y))
	case "and", "or":
		return api.ErrType
	case "/", "%":
		if y.Sign() == 0 {
			return api.ErrZero
		}
		if sign == "/" {
			return bounded(n.Quo(x, y))
		}
		return bounded(n.Rem(x, y))
	}
	return stands(sign, x.Cmp(y))
}

// truth is what comes of two truths.
func truth(sign string, x, y bool) any {
	switch sign {
	case "and":
		return x && y
	case "or":
		return x || y
	case "=":
		return x == y
	case "!=":
		return x != y
	}
	return api.ErrType
}

// text is what comes of two texts.
func text(sign, x, y string) any {
	switch sign {
	case "+":
		if len(x)+len(y) > 48 {
			return api.ErrLong
		}
		return x + y
	case "*", "/", "%", "-", "and", "or":
		return api.ErrType
	}
	switch {
	case x < y:
		return stands(sign, -1)
	case x > y:
		return stands(sign, 1)
	}
	return stands(sign, 0)
}

// stands tells how values stand to one another whose order is known.
func stands(sign string, order int) bool {
	switch sign {
	case "<":
		return order < 0
	case "<=":
		return order <= 0
	case ">":
		return order > 0
	case ">=":
		return order >= 0
	case "=":
		return order == 0
	}
	return order != 0
}

// bounded is a number, if it isn't beyond 64 bits.
func bounded(n *big.Int) any {
	if !n.IsInt64() {
		return api.ErrOver
	}
	return n
}

// told is what Eval should tell of a part.
func (p part) told() (val.Value, api.Errno) {
	switch x := p.v.(type) {
	case *big.Int:
		return val.Value{Kind: 1, N: x.Int64()}, api.OK
	case bool:
		v := val.Value{Kind: 2}
		if x {
			v.N = 1
		}
		return v, api.OK
	case string:
		return val.Value{Kind: 3, S: x}, api.OK
	}
	return val.Value{}, p.v.(api.Errno)
}

// chance makes texts, and what they stand for, by chance.
type chance struct{ dice.Dice }

// some is a part of so many levels at most, of which most parts are of the kind that is asked for.
func (c *chance) some(k, levels int) part {
	if c.Below(40) == 0 {
		k = c.Below(4)
	}
	switch {
	case levels == 0 || k == 0 || c.Below(5) == 0:
		return dice.One(&c.Dice, leaves[k])
	case k == val.Int && c.Below(5) == 0:
		return one("-", c.some(k, levels-1))
	case k == val.Bool && c.Below(5) == 0:
		return one("not", c.some(k, levels-1))
	}
	sign, of := "+", k
	switch k {
	case val.Int:
		sign = dice.One(&c.Dice, signs[:5])
	case val.Bool:
		sign = dice.One(&c.Dice, append(signs[5:], "and", "or", "and", "or"))
		switch sign {
		case "=", "!=":
			of = 1 + c.Below(3)
		case "and", "or":
		default:
			of = 1 + 2*c.Below(2)
		}
	}
	return two(sign, c.some(of, levels-1), c.some(of, levels-1))
}

// read is the expression that a text is, of which it is known that it is one.
func read(s string) expr.Expr {
	x, e := expr.Read(s)
	if e != api.OK {
		panic(s + ": " + strconv.Itoa(int(e)))
	}
	return x
}
