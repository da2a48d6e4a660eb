package act_test

import (
	"math"
	"slices"
	"testing"

	"whirligig/act"
	"whirligig/api"
	"whirligig/expr"
	"whirligig/tok"
	"whirligig/val"
)

func TestNumbersOfConstants(t *testing.T) {
	for i, k := range []int{act.Set, act.Raise, act.Send, act.Cancel, act.Log} {
		if k != i+1 {
			t.Error("kind", i+1, k)
		}
	}
}

// wrong are expressions that may not be.
func wrong() []expr.Expr {
	deep := expr.Expr{{V: val.Of(1)}}
	for i := range api.MaxDepth {
		deep = append(deep, expr.Node{Op: val.Neg, L: i})
	}
	return []expr.Expr{
		deep, make(expr.Expr, 33), {{}}, {{Op: 99}}, {{V: val.Of(-1)}}, {{V: val.Word("'")}}, {{Op: expr.Var, Name: "if"}}, {{Op: expr.Var, Name: "a.b"}}, {{Op: expr.In}},
		{{V: val.Of(1)}, {V: val.Of(1)}}, {{V: val.Of(1)}, {Op: val.Neg, L: 1}}, {{V: val.Of(1), Name: "a"}}, {{V: val.Of(1)}, {Op: val.Add}},
	}
}

// P6.2: all kinds, with all sorts of what they may have, and may not have.
func TestRight(t *testing.T) {
	xs := append(wrong(), nil, expr.Expr{}, read("a"), read("-1"), read("in(s) and 'a' < b"), read(times(7, "-")+"1"))
	names := []string{"", "x", "e.f", "if", "log", "set.if", "in", "A", "x ", " x", "x y", "1", "'x'", "x;", "x.", "*", "<", "\x00", times(16, "n"), times(17, "n"), times(16, "n") + "." + times(15, "n"), times(16, "n") + "." + times(16, "n")}
	numbers := []int64{math.MinInt64, -1, 0, 1, 1<<20 - 1, 1 << 20, 1<<20 + 1, math.MaxInt64}
	right := map[int]int{}
	for _, k := range []int{math.MinInt, -1, 0, 1, 2, 3, 4, 5, 6, 7, math.MaxInt} {
		for _, name := range names {
			for _, x := range xs {
				for _, cond := range xs {
					for _, n := range numbers {
						a := act.Act{Kind: k, If: cond, Name: name, X: x, N: n}
						want := may(a)
						if a.Right() != want {
							t.Fatal(a, want)
						}
						if want {
							right[k]++
						}
					}
				}
			}
		}
	}
	for k := act.Set; k <= act.Log; k++ {
		if right[k] < 6 {
			t.Error(right)
		}
	}
	if len(right) != 5 {
		t.Error(right)
	}
}

// P6.2: an act's parts are as great as layer 3 lets each of them be.
func TestRightGreat(t *testing.T) {
	four := "((in(a) + in(b)) * (in(c) + in(d)))"
	x := read("-(" + four + " - " + four + " - (" + four + " - " + four + "))")
	if len(x) != api.MaxNodes {
		t.Fatal(len(x))
	}
	a := act.Act{Kind: act.Log, If: x, X: x}
	if !a.Right() {
		t.Error("isn't right")
	}
	if s := act.Show(a); s != "if "+x.Show()+" : log "+x.Show() {
		t.Error(s)
	}
	for _, a := range []act.Act{{Kind: act.Set, Name: "x", X: x}, {Kind: act.Raise, Name: "e", If: x}} {
		if !a.Right() || !may(a) {
			t.Error(a)
		}
	}
}

// P6.2: names of events.
func TestEvent(t *testing.T) {
	w16 := times(16, "a")
	for s, want := range map[string]bool{
		"": false, "e": true, "e.f": true, "e.f.g": true, "e_1": true, "error.execution": true, "done.state.a": true, "iff": true,
		"if.a": true, "a.if": true, "set.raise": true, "in.x": true, "*": false, ".": false, "e.": false, ".e": false, "e..f": false, "e.1": false, "e.*": false,
		"1": false, "1e": false, "_e": false, "E": false, "eE": false, "'e'": false, "'e": false, "e'": false, "e f": false, " e": false, "e ": false, "e;": false, "e.f ": false, "e. f": false, "-e": false, "e\n": false, "e\x00": false, "\u00e4": false,
		w16: true, w16 + "a": false, w16 + "." + w16[1:]: true, w16 + "." + w16: false, w16 + "a.b": false, times(15, "a.") + "ab": true, times(16, "a.") + "a": false,
		times(1<<20, "a"): false, times(1<<20, "a ") + "a": false, times(1<<20, " "): false, times(1<<20, "("): false,
	} {
		if act.Event(s) != want {
			t.Errorf("%.60q", s)
		}
	}
	for _, w := range []string{"chart", "var", "state", "parallel", "final", "deep", "shallow", "enter", "exit", "on", "auto", "end", "if", "go", "inner", "do", "set", "raise", "send", "cancel", "log", "true", "false", "not", "and", "or", "in"} {
		if act.Event(w) || !act.Event(w+"."+w) || !act.Event(w+"x") || act.Event(w+".") {
			t.Error(w)
		}
	}
	for b := range 256 {
		s := string([]byte{byte(b)})
		first, further := b >= 'a' && b <= 'z', b >= 'a' && b <= 'z' || b >= '0' && b <= '9' || b == '_'
		if act.Event(s) != first || act.Event("x"+s) != further || act.Event("x"+s+"y") != (further || b == '.') || act.Event("x."+s) != first {
			t.Errorf("%q", s)
		}
	}
}

// P6.2: a text is an event just if it is one in an act, too.
func TestEventIsTaken(t *testing.T) {
	c := chance{3}
	found := 0
	for range 20000 {
		s := ""
		for range 1 + c.Below(4) {
			s += c.Pick("a", "if", "go", ".", "_", "1", " ", "'", "set", "B", times(14, "n"))
		}
		if act.Event(s) {
			found++
		}
		for _, a := range []act.Act{{Kind: act.Raise, Name: s}, {Kind: act.Send, Name: s}, {Kind: act.Cancel, Name: s}} {
			if a.Right() != act.Event(s) || may(a) != act.Event(s) {
				t.Fatalf("%q", s)
			}
		}
	}
	if found < 2000 || found > 18000 {
		t.Error(found)
	}
}

// P6.2: the document's example, and each kind.
func TestShow(t *testing.T) {
	for s, want := range map[string]string{
		"set x x+1;if x>3:raise big":     "set x x + 1 ; if x > 3 : raise big",
		"set  x(((1)))":                  "set x 1",
		"set x-1":                        "set x -1",
		"set x 'a  b'":                   "set x 'a  b'",
		"raise a.b.c":                    "raise a.b.c",
		"send e 0":                       "send e 0",
		"send   e.f   1048576":           "send e.f 1048576",
		"cancel e":                       "cancel e",
		"log''":                          "log ''",
		"log not(a)":                     "log not a",
		"if(in(s)):log in(s)":            "if in(s) : log in(s)",
		"if not(a and(b or c)):cancel e": "if not (a and (b or c)) : cancel e",
		"if a:set x 1;if b:send e 1;if c:raise e": "if a : set x 1 ; if b : send e 1 ; if c : raise e",
		"log ';';log ' : '":                       "log ';' ; log ' : '",
		times(7, "raise e;") + "raise e":          times(7, "raise e ; ") + "raise e",
	} {
		acts, _, e := act.Take(lex(s), 0)
		if got := act.Show(acts...); got != want || e != api.OK {
			t.Error(s, got, e)
		}
		holds(t, lex(want), 0)
	}
	if s := act.Show(); s != "" {
		t.Error(s)
	}
	one := act.Act{Kind: act.Set, If: expr.Expr{}, Name: "x", X: read("1")}
	if s := act.Show(one); s != "set x 1" {
		t.Error(s)
	}
	// How many there may be one behind the other is no matter of what is shown.
	if s := act.Show(slices.Repeat([]act.Act{one}, 1000)...); s != times(999, "set x 1 ; ")+"set x 1" {
		t.Error("many")
	}
}

// P6.2: acts made by chance are shown word by word, and taken again from that.
func TestShowTaken(t *testing.T) {
	c := chance{4}
	shown := 0
	for range 20000 {
		l, e, _ := tok.Lex(c.some(1+c.Below(8), c.Below(6)))
		if e != api.OK {
			continue
		}
		acts, _, e := act.Take(l, 0)
		if e != api.OK {
			continue
		}
		want := ""
		for i, a := range acts {
			if i > 0 {
				want += " ; "
			}
			want += line(a)
			if s := act.Show(a); s != line(a) {
				t.Fatal(s, line(a))
			}
		}
		if s := act.Show(acts...); s != want {
			t.Fatal(s, want)
		}
		again(t, acts)
		shown++
	}
	if shown < 10000 {
		t.Error(shown)
	}
}

// P1: of whatever acts, each call ends.
func TestWild(t *testing.T) {
	double := make(expr.Expr, 1<<20)
	for i := range double {
		double[i] = expr.Node{Op: val.Add, L: i - 1, R: i - 1}
	}
	xs := append(wrong(), nil, double, double[:32], expr.Expr{{Op: val.Neg}}, expr.Expr{{Op: val.Add, L: math.MinInt, R: math.MaxInt}})
	for _, k := range []int{math.MinInt, -1, 0, 1, 2, 3, 4, 5, 6, math.MaxInt} {
		for _, x := range xs {
			for _, cond := range xs {
				for _, n := range []int64{math.MinInt64, 0, math.MaxInt64} {
					a := act.Act{Kind: k, If: cond, Name: "\x00", X: x, N: n}
					if a.Right() {
						t.Error(a)
					}
					act.Show(a, a)
				}
			}
		}
	}
}

// Acts that are looked at stay as they are.
func TestLooked(t *testing.T) {
	acts, _, _ := act.Take(lex("if x > 3 : set x (x + 1) * 2 ; send e 5 ; log 'a'"), 0)
	was := make([]act.Act, len(acts))
	for i, a := range acts {
		a.If, a.X = slices.Clone(a.If), slices.Clone(a.X)
		was[i] = a
	}
	act.Show(acts...)
	for _, a := range acts {
		a.Right()
	}
	if !slices.EqualFunc(acts, was, same) {
		t.Error(acts)
	}
}
