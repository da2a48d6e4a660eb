package kind_test

import (
	"maps"
	"math"
	"slices"
	"testing"

	"whirligig/api"
	"whirligig/dice"
	"whirligig/expr"
	"whirligig/kind"
	"whirligig/val"
)

// kinds are layer 1's, and numbers that are none.
var kinds = []int{math.MinInt, -1, 0, val.Int, val.Bool, val.Text, 4, 16, math.MaxInt}

// holds holds what Of and Is tell against what they should tell.
func holds(t *testing.T, x expr.Expr, s kind.Scope, want int, wantE api.Errno) {
	t.Helper()
	if k, e := kind.Of(x, s); k != want || e != wantE {
		t.Fatal(x.Show(), k, e, "not", want, wantE)
	}
	for _, k := range kinds {
		is := wantE
		if wantE == api.OK && k != want {
			is = api.ErrType
		}
		if e := kind.Is(x, s, k); e != is {
			t.Fatal(x.Show(), "is", k, e, "not", is)
		}
	}
}

// P4.1: one and two operations of all leaves, both ways about.
func TestOfShort(t *testing.T) {
	s := names()
	look := func(x *tree) {
		k, e := x.kind()
		holds(t, read(x.line()), s, k, e)
	}
	few := []*tree{{text: "n"}, {text: "b"}, {text: "t"}, {text: "m"}, {text: "in(s)"}, {text: "in(m)"}}
	for text := range leaves {
		x := &tree{text: text}
		look(x)
		for _, sign := range []string{"not", "-"} {
			look(&tree{sign, []*tree{x}})
			look(&tree{"not", []*tree{{sign, []*tree{x}}}})
			look(&tree{"-", []*tree{{sign, []*tree{x}}}})
		}
		for other := range leaves {
			for sign := range results {
				look(&tree{sign, []*tree{x, {text: other}}})
			}
		}
	}
	for sign := range results {
		for other := range results {
			for i := range len(few) * len(few) * len(few) {
				x, y, z := few[i%len(few)], few[i/len(few)%len(few)], few[i/len(few)/len(few)]
				look(&tree{sign, []*tree{{other, []*tree{x, y}}, z}})
				look(&tree{sign, []*tree{x, {other, []*tree{y, z}}}})
			}
		}
	}
}

// P4.1: expressions as great as they may be, of which some have a kind, and some have parts of a wrong one, or names that aren't there.
func TestOfLong(t *testing.T) {
	s := names()
	c := chance{1}
	found := map[int]int{}
	errors := map[api.Errno]int{}
	most := 0
	for range 30000 {
		tree := c.some(1+c.Below(3), c.Below(8))
		x, e := expr.Read(tree.line())
		if e != api.OK {
			continue
		}
		k, e := tree.kind()
		holds(t, x, s, k, e)
		if len(x) > 5 {
			found[k]++
			errors[e]++
		}
		most = max(most, len(x))
	}
	for _, n := range slices.Concat(slices.Collect(maps.Values(found)), slices.Collect(maps.Values(errors))) {
		if n < 200 {
			t.Error(found, errors)
		}
	}
	if len(found) != 4 || len(errors) != 3 || most != api.MaxNodes {
		t.Error(found, errors, most)
	}
}

// P4.1: the first node that has no kind is told of, be it a part that another one makes idle or not.
func TestOfOrder(t *testing.T) {
	for text, want := range map[string]api.Errno{
		"m + (n + t)": api.ErrName, "(n + t) + m": api.ErrType, "n + t + m": api.ErrType, "n + m + t": api.ErrName,
		"in(m) and -b": api.ErrName, "-b = in(m)": api.ErrType, "b and m": api.ErrName, "n and m": api.ErrName, "n and (m or -b)": api.ErrName, "n and (-b or m)": api.ErrType,
		"true or m": api.ErrName, "false and in(m)": api.ErrName, "true or 1": api.ErrType, "false and (1 + true = 2)": api.ErrType, "0 * m": api.ErrName,
		"1 / 0": api.OK, "9223372036854775807 + 1": api.OK, "'a' + t": api.OK,
		"not not n": api.ErrType, "--b": api.ErrType, "not (n = 1) = b": api.OK, "(-n * n < n) = b": api.OK,
	} {
		if k, e := kind.Of(read(text), names()); e != want || (k != 0) != (e == api.OK) {
			t.Error(text, k, e)
		}
	}
}

// P4.1: of several variables of one name the first one counts, and names of variables are none of states.
func TestScopes(t *testing.T) {
	v := func(name string, k int) kind.Var { return kind.Var{Name: name, Kind: k} }
	for _, c := range []struct {
		text string
		s    kind.Scope
		k    int
		e    api.Errno
	}{
		{"x", kind.Scope{}, 0, api.ErrName},
		{"in(x)", kind.Scope{}, 0, api.ErrName},
		{"1", kind.Scope{}, val.Int, api.OK},
		{"'a' = 'b'", kind.Scope{}, val.Bool, api.OK},
		{"x", kind.Scope{States: []string{"x"}}, 0, api.ErrName},
		{"in(x)", kind.Scope{Vars: []kind.Var{v("x", val.Bool)}}, 0, api.ErrName},
		{"in(x)", kind.Scope{Vars: []kind.Var{v("x", val.Text)}, States: []string{"a", "x"}}, val.Bool, api.OK},
		{"x", kind.Scope{Vars: []kind.Var{v("x", val.Text)}, States: []string{"a", "x"}}, val.Text, api.OK},
		{"x", kind.Scope{Vars: []kind.Var{v("x", val.Int), v("x", val.Text)}}, val.Int, api.OK},
		{"x", kind.Scope{Vars: []kind.Var{v("y", val.Bool), v("x", val.Text), v("x", val.Int), v("x", val.Bool)}}, val.Text, api.OK},
		{"x + 1", kind.Scope{Vars: []kind.Var{v("x", val.Text)}}, 0, api.ErrType},
		{"x + 1", kind.Scope{Vars: []kind.Var{v("x", val.Text), v("x", val.Int)}}, 0, api.ErrType},
		{"x + 1", kind.Scope{Vars: []kind.Var{v("x", val.Int), v("x", val.Text)}}, val.Int, api.OK},
		{"x", kind.Scope{Vars: []kind.Var{v("xx", val.Int), v("X", val.Int), v("", val.Int), v("x ", val.Int), v("x1", val.Int)}}, 0, api.ErrName},
		{"in(x)", kind.Scope{States: []string{"xx", "X", "", " x", "x1"}}, 0, api.ErrName},
		{"in(x) = x", kind.Scope{Vars: []kind.Var{v("x", val.Bool)}, States: []string{"x"}}, val.Bool, api.OK},
	} {
		holds(t, read(c.text), c.s, c.k, c.e)
	}
	many := kind.Scope{Vars: slices.Repeat([]kind.Var{v("y", val.Int)}, 1<<16), States: slices.Repeat([]string{"t"}, 1<<16)}
	holds(t, read("in(s)"), many, 0, api.ErrName)
	holds(t, read("x"), many, 0, api.ErrName)
	many.Vars, many.States = append(many.Vars, v("x", val.Text)), append(many.States, "s")
	holds(t, read("in(s) = (x < x)"), many, val.Bool, api.OK)
}

// P4.1: what may not be is told ahead of what has no kind.
func TestOfForm(t *testing.T) {
	tower := expr.Expr{{Op: expr.Var, Name: "m"}}
	for i := range api.MaxDepth {
		tower = append(tower, expr.Node{Op: val.Neg, L: i})
	}
	for _, x := range []expr.Expr{
		nil, {}, tower, make(expr.Expr, 33), make(expr.Expr, 1<<16),
		{{}}, {{V: val.Of(-1)}}, {{V: val.Value{Kind: val.Bool, N: 2}}}, {{V: val.Word("'")}}, {{V: val.Value{Kind: 4}}},
		{{Op: expr.Var}}, {{Op: expr.Var, Name: "if"}}, {{Op: expr.Var, Name: "a.b"}}, {{Op: expr.In, Name: ""}}, {{Op: expr.In, Name: "end"}},
		{{Op: expr.Var, Name: "n", L: 1}}, {{Op: expr.Var, Name: "n", V: val.Of(1)}}, {{V: val.Of(1), Name: "n"}}, {{Op: expr.In, Name: "s", R: 1}},
		{{Op: val.Neg}}, {{Op: val.Not, L: -1}}, {{Op: val.Add}}, {{Op: -1}}, {{Op: 18}}, {{Op: math.MinInt}}, {{Op: math.MaxInt}},
		{{V: val.Of(1)}, {Op: val.Add, L: 0, R: 1}}, {{V: val.Of(1)}, {Op: val.Add, L: 0, R: 0}}, {{V: val.Of(1)}, {Op: val.Neg, L: 0, R: 7}},
		{{V: val.Of(1)}, {Op: val.Neg, L: math.MaxInt}}, {{V: val.Of(1)}, {Op: val.Neg, L: math.MinInt}}, {{V: val.Of(1)}, {V: val.Of(2)}, {Op: val.Add, L: 1, R: 0}},
		{{V: val.Of(1)}, {V: val.Of(2)}}, {{Op: expr.Var, Name: "n"}, {Op: expr.Var, Name: "m"}},
		{{Op: expr.Var, Name: "m"}, {Op: val.Not, L: 1}}, {{V: val.Of(1)}, {Op: val.Not, L: 0}, {V: val.Of(1)}},
	} {
		holds(t, x, names(), 0, api.ErrForm)
		holds(t, x, kind.Scope{}, 0, api.ErrForm)
	}
	// One level less is as deep as may be.
	holds(t, tower[:api.MaxDepth], names(), 0, api.ErrName)
	tower[0].Name = "n"
	holds(t, tower[:api.MaxDepth], names(), val.Int, api.OK)
}

// P1: of whatever nodes, and kinds that are none, each call ends.
func TestWild(t *testing.T) {
	c := chance{2}
	ops := []int{math.MinInt, -1, 0, 1, 2, 6, 12, 15, 16, 17, 18, math.MaxInt}
	for range 20000 {
		x := make(expr.Expr, c.Below(40))
		for i := range x {
			x[i] = expr.Node{Op: dice.One(&c.Dice, ops), L: c.Below(40) - 1, R: dice.One(&c.Dice, ops), Name: dice.One(&c.Dice, []string{"", "n", "m"})}
		}
		kind.Of(x, names())
		kind.Is(x, names(), dice.One(&c.Dice, kinds))
	}
	for _, k := range kinds {
		for _, other := range kinds {
			s := kind.Scope{Vars: []kind.Var{{Name: "x", Kind: k}, {Name: "y", Kind: other}}}
			for _, text := range []string{"x", "-x", "not x", "x + y", "x = y", "x and y", "x < y"} {
				kind.Of(read(text), s)
				kind.Is(read(text), s, k)
			}
		}
	}
}

// What is handed in stays as it is, its spare room too.
func TestLooked(t *testing.T) {
	x, s := read("(both + 1) * 2 < n and not in(s) and t = 'a'"), names()
	x, s.Vars, s.States = append(x, expr.Node{Op: 99}), append(s.Vars, kind.Var{Name: "z"}), append(s.States, "z")
	wasX, wasVars, wasStates := slices.Clone(x), slices.Clone(s.Vars), slices.Clone(s.States)
	part := kind.Scope{Vars: s.Vars[:len(s.Vars)-1], States: s.States[:len(s.States)-1]}
	holds(t, x[:len(x)-1], part, val.Bool, api.OK)
	if !slices.Equal(x, wasX) || !slices.Equal(s.Vars, wasVars) || !slices.Equal(s.States, wasStates) {
		t.Error(x, s)
	}
}
