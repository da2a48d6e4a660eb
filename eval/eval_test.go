package eval_test

import (
	"maps"
	"math"
	"slices"
	"strings"
	"testing"

	"whirligig/api"
	"whirligig/dice"
	"whirligig/eval"
	"whirligig/expr"
	"whirligig/kind"
	"whirligig/val"
)

// holds holds what Eval and Holds tell against what they should tell.
func holds(t *testing.T, x expr.Expr, v eval.Env, want val.Value, wantE api.Errno) {
	t.Helper()
	if got, e := eval.Eval(x, v); got != want || e != wantE {
		t.Fatal(x.Show(), got, e, "not", want, wantE)
	}
	yes := wantE == api.OK && want == val.Truth(true)
	if wantE == api.OK && want.Kind != val.Bool {
		wantE = api.ErrType
	}
	if b, e := eval.Holds(x, v); b != yes || e != wantE {
		t.Fatal(x.Show(), "holds", b, e, "not", yes, wantE)
	}
}

// looks holds what is told of a part against what it should come to.
func looks(t *testing.T, p part) {
	t.Helper()
	v, e := p.told()
	holds(t, read(p.text), names(), v, e)
}

// P5.1: one and two operations of all leaves, both ways about.
func TestEvalShort(t *testing.T) {
	l := leaves
	all := slices.Concat(l[0], l[1], l[2], l[3])
	for _, a := range all {
		looks(t, a)
		for _, sign := range []string{"not", "-"} {
			looks(t, one(sign, a))
			looks(t, one("not", one(sign, a)))
			looks(t, one("-", one(sign, a)))
		}
		for _, b := range all {
			for _, sign := range signs {
				looks(t, two(sign, a, b))
			}
		}
	}
	few := []part{l[0][0], l[1][0], l[1][5], l[2][0], l[2][1], l[3][3]}
	for _, sign := range signs {
		for _, other := range signs {
			for i := range len(few) * len(few) * len(few) {
				a, b, c := few[i%len(few)], few[i/len(few)%len(few)], few[i/len(few)/len(few)]
				looks(t, two(sign, two(other, a, b), c))
				looks(t, two(sign, a, two(other, b, c)))
			}
		}
	}
}

// P5.1: expressions as great as they may be, of which some come to each kind of value, some tell each error, and some have parts that play none.
func TestEvalLong(t *testing.T) {
	c := chance{1}
	kinds, errors := map[int]int{}, map[api.Errno]int{}
	idle, most := 0, 0
	for range 60000 {
		p := c.some(1+c.Below(3), c.Below(8))
		x, e := expr.Read(p.text)
		if e != api.OK {
			continue
		}
		v, e := p.told()
		holds(t, x, names(), v, e)
		if len(x) > 5 {
			kinds[v.Kind]++
			errors[e]++
		}
		if p.idle && e == api.OK {
			idle++
		}
		most = max(most, len(x))
	}
	for _, n := range slices.Concat(slices.Collect(maps.Values(kinds)), slices.Collect(maps.Values(errors))) {
		if n < 200 {
			t.Error(kinds, errors)
		}
	}
	if len(kinds) != 4 || len(errors) != 6 || idle < 200 || most != api.MaxNodes {
		t.Error(kinds, errors, idle, most)
	}
}

// P5.1: the first part's error is told ahead of the second one's, whichever they are, and what plays no part tells none.
func TestEvalOrder(t *testing.T) {
	over, zero, long, kind := "9223372036854775807 + 1", "1 / 0", "u + u", "-''"
	wrong := map[string]api.Errno{"m": api.ErrName, over: api.ErrOver, zero: api.ErrZero, long: api.ErrLong, kind: api.ErrType}
	for a, first := range wrong {
		for b, second := range wrong {
			for _, sign := range signs {
				holds(t, read("("+a+") "+sign+" ("+b+")"), names(), val.Value{}, first)
			}
			holds(t, read("false or ("+a+") = ("+b+")"), names(), val.Value{}, first)
			holds(t, read("(false and ("+a+") = 1) or ("+b+") = 1"), names(), val.Value{}, second)
			holds(t, read("false and ("+a+") or true or ("+b+")"), names(), val.Truth(true), api.OK)
		}
		for text, want := range map[string]val.Value{
			"false and (" + a + ")": val.Truth(false), "no and (" + a + ")": val.Truth(false), "in(m) and (" + a + ")": val.Truth(false),
			"true or (" + a + ")": val.Truth(true), "yes or (" + a + ")": val.Truth(true), "in(lit) or (" + a + ")": val.Truth(true),
			"n != 0 and (" + a + ")": val.Truth(false), "not (true or (" + a + "))": val.Truth(false), "(false and (" + a + ")) = no": val.Truth(true),
		} {
			holds(t, read(text), names(), want, api.OK)
		}
		// What only looks like the truth settles nothing, and neither do the other operations.
		for _, text := range []string{"true and (@)", "false or (@)", "0 and (@)", "n and (@)", "1 or (@)", "'' and (@)", "'false' and (@)", "'true' or (@)", "0 * (@)", "false = (@)", "true != (@)", "0 / (@)", "(@) and false", "(@) or true"} {
			holds(t, read(strings.Replace(text, "@", a, 1)), names(), val.Value{}, first)
		}
	}
	for text, want := range map[string]api.Errno{
		"true and 1": api.ErrType, "false or 1": api.ErrType, "1 and true": api.ErrType, "0 and true": api.ErrType, "1 or true": api.ErrType, "'' or false": api.ErrType, "n and n": api.ErrType,
		"1 / 0 and false": api.ErrZero, "1 + t": api.ErrType, "t / 0": api.ErrType, "not n": api.ErrType, "-yes": api.ErrType, "-least": api.ErrOver, "least / -1": api.ErrOver, "least % 0": api.ErrZero,
	} {
		holds(t, read(text), names(), val.Value{}, want)
	}
}

// P5.1, and the examples of the chapter.
func TestEvalExamples(t *testing.T) {
	for text, want := range map[string]string{
		"n != 0 and 10 / n > 2": "false", "k != 0 and 10 / k > 2": "false", "k != 0 and 10 / k > 0": "true",
		"7 - 2 - 1": "4", "7 - (2 - 1)": "6", "k / 2 * 2": "6", "-k / 2": "-3", "-k % 2": "-1", "least % -1": "0", "--k": "7",
		"'a' + 'b' + 'c'": "'abc'", "t + t": "'" + half + half + "'", "t < u": "true", "u < 'y'": "true", "'10' < '9'": "true", "10 < 9": "false", "'' = ''": "true",
		"not in(lit) or k = 7": "true", "in(lit) = in(both)": "true", "yes != no": "true", "9223372036854775807 - 1 + 1": "9223372036854775807",
	} {
		v, e := val.Read(want)
		holds(t, read(text), names(), v, e)
	}
	holds(t, read("10 / n"), names(), val.Value{}, api.ErrZero)
}

// P5.1: of several cells of one name the first one counts, and names of cells are none of states.
func TestEnvs(t *testing.T) {
	cell := func(name string, v val.Value) eval.Cell { return eval.Cell{Name: name, V: v} }
	for _, c := range []struct {
		text string
		v    eval.Env
		want val.Value
		e    api.Errno
	}{
		{"x", eval.Env{}, val.Value{}, api.ErrName},
		{"in(x)", eval.Env{}, val.Truth(false), api.OK},
		{"'a' = 'b'", eval.Env{}, val.Truth(false), api.OK},
		{"x", eval.Env{In: []string{"x"}}, val.Value{}, api.ErrName},
		{"in(x)", eval.Env{Vars: []eval.Cell{cell("x", val.Truth(true))}}, val.Truth(false), api.OK},
		{"in(x)", eval.Env{Vars: []eval.Cell{cell("x", val.Truth(false))}, In: []string{"a", "x"}}, val.Truth(true), api.OK},
		{"x", eval.Env{Vars: []eval.Cell{cell("x", val.Word("s"))}, In: []string{"x"}}, val.Word("s"), api.OK},
		{"x", eval.Env{Vars: []eval.Cell{cell("x", val.Of(0)), cell("x", val.Of(9))}}, val.Of(0), api.OK},
		{"x", eval.Env{Vars: []eval.Cell{cell("y", val.Of(1)), cell("x", val.Word("")), cell("x", val.Of(9)), cell("x", val.Truth(true))}}, val.Word(""), api.OK},
		{"x and y", eval.Env{Vars: []eval.Cell{cell("x", val.Truth(false)), cell("x", val.Truth(true))}}, val.Truth(false), api.OK},
		{"x and y", eval.Env{Vars: []eval.Cell{cell("x", val.Truth(true)), cell("x", val.Truth(false))}}, val.Value{}, api.ErrName},
		{"x", eval.Env{Vars: []eval.Cell{cell("xx", val.Of(1)), cell("X", val.Of(1)), cell("", val.Of(1)), cell("x ", val.Of(1)), cell("x1", val.Of(1))}}, val.Value{}, api.ErrName},
		{"in(x)", eval.Env{In: []string{"xx", "X", "", " x", "x1", "y"}}, val.Truth(false), api.OK},
		{"xab", eval.Env{Vars: []eval.Cell{cell("xaa", val.Of(1)), cell("yab", val.Of(2)), cell("xbb", val.Of(3)), cell("xab", val.Of(4))}}, val.Of(4), api.OK},
		{"xab", eval.Env{Vars: []eval.Cell{cell("xaa", val.Of(1)), cell("yab", val.Of(2)), cell("xbb", val.Of(3))}}, val.Value{}, api.ErrName},
		{"in(xab)", eval.Env{In: []string{"xaa", "yab", "xbb"}}, val.Truth(false), api.OK},
		{"in(xab)", eval.Env{In: []string{"xaa", "yab", "xbb", "xab"}}, val.Truth(true), api.OK},
		{"in(x) = x", eval.Env{Vars: []eval.Cell{cell("x", val.Truth(true))}, In: []string{"x"}}, val.Truth(true), api.OK},
	} {
		holds(t, read(c.text), c.v, c.want, c.e)
	}
	many := eval.Env{Vars: slices.Repeat([]eval.Cell{cell("y", val.Of(1))}, 1<<16), In: slices.Repeat([]string{"t"}, 1<<16)}
	holds(t, read("in(s)"), many, val.Truth(false), api.OK)
	holds(t, read("x"), many, val.Value{}, api.ErrName)
	many.Vars, many.In = append(many.Vars, cell("x", val.Word("a"))), append(many.In, "s")
	holds(t, read("in(s) = (x < 'b')"), many, val.Truth(true), api.OK)
}

// P5.1: what may not be is told ahead of all else, though it would come to something, or tell another error.
func TestEvalForm(t *testing.T) {
	yes := expr.Node{V: val.Truth(true)}
	tower := expr.Expr{yes}
	for i := range api.MaxDepth {
		tower = append(tower, expr.Node{Op: val.Not, L: i})
	}
	row := expr.Expr{yes}
	for len(row) < api.MaxNodes+1 {
		row = append(row, yes, expr.Node{Op: val.Or, L: len(row) - 1, R: len(row)})
	}
	for _, x := range []expr.Expr{
		nil, {}, tower, row, make(expr.Expr, api.MaxNodes+1), slices.Repeat(expr.Expr{yes}, 1<<16),
		{{}}, {{V: val.Of(-1)}}, {{V: val.Value{Kind: val.Bool, N: 2}}}, {{V: val.Word("'")}}, {{V: val.Value{Kind: 4}}},
		{{Op: expr.Var}}, {{Op: expr.Var, Name: "if"}}, {{Op: expr.Var, Name: "a.b"}}, {{Op: expr.In, Name: ""}}, {{Op: expr.In, Name: "end"}},
		{{Op: expr.Var, Name: "n", L: 1}}, {{Op: expr.Var, Name: "n", V: val.Of(1)}}, {{V: val.Of(1), Name: "n"}}, {{Op: expr.In, Name: "lit", R: 1}},
		{{Op: val.Neg}}, {{Op: val.Not, L: -1}}, {{Op: val.And}}, {{Op: -1}}, {{Op: 18}}, {{Op: math.MinInt}}, {{Op: math.MaxInt}},
		{yes, {Op: val.Not, L: 1}}, {yes, {Op: val.Not, L: 0, R: 7}}, {yes, {Op: val.Not, L: math.MaxInt}}, {yes, {Op: val.Not, L: math.MinInt}},
		{yes, {Op: val.Or, L: 0, R: 0}}, {yes, {Op: val.Or, L: 0, R: 1}}, {yes, {Op: val.Or, L: 1, R: 0}}, {yes, yes, {Op: val.Or, L: 1, R: 0}}, {yes, {Op: -1}, {Op: val.Or, L: 0, R: 1}},
		{yes, yes}, {{Op: expr.Var, Name: "n"}, {Op: expr.Var, Name: "m"}}, {{Op: expr.Var, Name: "m"}, {Op: val.Not, L: 1}}, {yes, {Op: val.Not, L: 0}, yes},
	} {
		holds(t, x, names(), val.Value{}, api.ErrForm)
		holds(t, x, eval.Env{}, val.Value{}, api.ErrForm)
	}
	// One level less is as deep as may be.
	holds(t, tower[:api.MaxDepth], names(), val.Truth(false), api.OK)
	tower[0] = expr.Node{Op: expr.Var, Name: "m"}
	holds(t, tower[:api.MaxDepth], names(), val.Value{}, api.ErrName)
}

// P5.2: what has a kind comes to a value of it, or tells one of three errors, whatever states there are.
func TestEvalKind(t *testing.T) {
	c := chance{3}
	values := [4][]val.Value{
		1: {val.Of(0), val.Of(1), val.Of(-1), val.Of(2), val.Of(math.MaxInt64), val.Of(math.MinInt64), val.Of(1 << 32)},
		2: {val.Truth(true), val.Truth(false)},
		3: {val.Word(""), val.Word("a"), val.Word(half), val.Word(half + half)},
	}
	told := map[api.Errno]int{}
	for range 40000 {
		var v eval.Env
		s := kind.Scope{States: []string{"lit", "both", "n", "m", "off"}}
		for _, name := range []string{"n", "k", "least", "both", "yes", "no", "t", "u", "n", "yes"} {
			of := names().Vars[slices.IndexFunc(names().Vars, func(c eval.Cell) bool { return c.Name == name })].V.Kind
			if c.Below(10) == 0 {
				of = 1 + c.Below(3)
			}
			v.Vars = append(v.Vars, eval.Cell{Name: name, V: dice.One(&c.Dice, values[of])})
			s.Vars = append(s.Vars, kind.Var{Name: name, Kind: of})
		}
		for _, name := range s.States {
			if c.Below(2) == 0 {
				v.In = append(v.In, name)
			}
		}
		x, e := expr.Read(c.some(1+c.Below(3), c.Below(6)).text)
		if e != api.OK {
			continue
		}
		k, e := kind.Of(x, s)
		if e != api.OK {
			continue
		}
		got, e := eval.Eval(x, v)
		told[e]++
		switch e {
		case api.OK:
			if got.Kind != k || !got.Right() {
				t.Fatal(x.Show(), v, got, k)
			}
		case api.ErrOver, api.ErrZero, api.ErrLong:
			if got != (val.Value{}) {
				t.Fatal(x.Show(), v, got, e)
			}
		default:
			t.Fatal(x.Show(), v, e)
		}
	}
	if len(told) != 4 || told[api.OK] < 5000 || told[api.ErrOver] < 200 || told[api.ErrZero] < 200 || told[api.ErrLong] < 200 {
		t.Error(told)
	}
}

// P1: of whatever nodes, and values that may not be, each call ends.
func TestWild(t *testing.T) {
	c := chance{2}
	ops := []int{math.MinInt, -1, 0, 1, 2, 6, 12, 14, 15, 16, 17, 18, math.MaxInt}
	for range 20000 {
		x := make(expr.Expr, c.Below(40))
		for i := range x {
			x[i] = expr.Node{Op: dice.One(&c.Dice, ops), L: c.Below(40) - 1, R: dice.One(&c.Dice, ops), Name: dice.One(&c.Dice, []string{"", "n", "m"})}
		}
		eval.Eval(x, names())
		eval.Holds(x, names())
	}
	var wrong []val.Value
	for _, k := range []int{math.MinInt, -1, 0, val.Int, val.Bool, val.Text, 4, math.MaxInt} {
		wrong = append(wrong, val.Value{Kind: k}, val.Value{Kind: k, N: 2, S: "'\n"}, val.Value{Kind: k, N: -1, S: strings.Repeat("a", 100)})
	}
	for _, a := range wrong {
		for _, b := range wrong {
			v := eval.Env{Vars: []eval.Cell{{Name: "x", V: a}, {Name: "y", V: b}}}
			for _, text := range []string{"x", "-x", "not x", "x + y", "x / y", "x = y", "x and y", "x or y", "x < y"} {
				eval.Eval(read(text), v)
				eval.Holds(read(text), v)
			}
		}
	}
}

// What is handed in stays as it is, its spare room too.
func TestLooked(t *testing.T) {
	x, v := read("(both + 1) * 2 < n and not in(m) and t = 'a'"), names()
	x, v.Vars, v.In = append(x, expr.Node{Op: 99}), append(v.Vars, eval.Cell{Name: "z"}), append(v.In, "m")
	wasX, wasVars, wasIn := slices.Clone(x), slices.Clone(v.Vars), slices.Clone(v.In)
	part := eval.Env{Vars: v.Vars[:len(v.Vars)-1], In: v.In[:len(v.In)-1]}
	holds(t, x[:len(x)-1], part, val.Truth(false), api.OK)
	if !slices.Equal(x, wasX) || !slices.Equal(v.Vars, wasVars) || !slices.Equal(v.In, wasIn) {
		t.Error(x, v)
	}
}
