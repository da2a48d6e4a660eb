package line_test

import (
	"math"
	"testing"

	"whirligig/act"
	"whirligig/api"
	"whirligig/expr"
	"whirligig/line"
	"whirligig/val"
)

func TestNumbersOfConstants(t *testing.T) {
	for i, k := range []int{line.Chart, line.Var, line.State, line.Parallel, line.Final, line.Deep, line.Shallow, line.Enter, line.Exit, line.On, line.Auto, line.End} {
		if k != i+1 {
			t.Error("kind", i+1, k)
		}
	}
	if line.Any != "*" {
		t.Error(line.Any)
	}
}

// P7.2: the document's example, and each kind.
func TestText(t *testing.T) {
	for s, want := range map[string]string{
		"on e.a if x>1 go s t inner do log x": "on e.a if x > 1 go s t inner do log x",
		"  chart   c  ":                       "chart c",
		"chart c s":                           "chart c s",
		"var x-7":                             "var x -7",
		"var x - 7":                           "var x -7",
		"var x -0":                            "var x 0",
		"var x  7 ":                           "var x 7",
		"var x -9223372036854775807":          "var x -9223372036854775807",
		"var x 9223372036854775807":           "var x 9223372036854775807",
		"var x''":                             "var x ''",
		"var x 'a  b'":                        "var x 'a  b'",
		"var x 'false'":                       "var x 'false'",
		"var  x false":                        "var x false",
		"var x true":                          "var x true",
		"state  s":                            "state s",
		"state s  t":                          "state s t",
		"parallel  p":                         "parallel p",
		"final  f":                            "final f",
		"deep h  s":                           "deep h s",
		"shallow  h s":                        "shallow h s",
		"enter set x(x+1)*2;raise e":          "enter set x (x + 1) * 2 ; raise e",
		"exit if x:log 'a  b';send e.f  5":    "exit if x : log 'a  b' ; send e.f 5",
		"on*":                                 "on *",
		"on  e":                               "on e",
		"on*if x inner":                       "on * if x inner",
		"on if.go":                            "on if.go",
		"on e if((x))go a":                    "on e if x go a",
		"on e if(x)do log((1))":               "on e if x do log 1",
		"on e go a  b":                        "on e go a b",
		"on e if not(a or b)and in ( s )":     "on e if not (a or b) and in(s)",
		"auto":                                "auto",
		"auto if x=1 go a b do log x;log y":   "auto if x = 1 go a b do log x ; log y",
		"auto  inner":                         "auto inner",
		"auto go a inner":                     "auto go a inner",
		"auto do if - 1<x:set x - x":          "auto do if -1 < x : set x -x",
		" end ":                               "end",
	} {
		n, e := line.Parse(s)
		if e != api.OK || n.Text() != want {
			t.Errorf("%q: %q %d, not %q", s, n.Text(), e, want)
		}
		holds(t, s)
	}
}

// P7.2: of a transition alone, and of the line that has it.
func TestShow(t *testing.T) {
	for want, n := range map[string]line.Trans{
		"auto":             {},
		"auto inner":       {Inner: true},
		"auto if x":        {If: read("x")},
		"auto go a b":      {Goes: []string{"a", "b"}},
		"auto do raise e":  {Do: take("raise e")},
		"on e":             {Event: "e"},
		"on * go s":        {Event: line.Any, Goes: []string{"s"}},
		"on a.b if x go s": {Event: "a.b", If: read("x"), Goes: []string{"s"}},
		"on e if x > 1 go s t inner do log x ; raise e": {Event: "e", If: read("x>1"), Goes: []string{"s", "t"}, Inner: true, Do: take("log x;raise e")},
		"on e if x inner do log 1":                      {Event: "e", If: expr.Expr{{Op: expr.Var, Name: "x"}}, Goes: []string{}, Inner: true, Do: []act.Act{{Kind: act.Log, X: read("1")}}},
	} {
		if n.Show() != want {
			t.Errorf("%q, not %q", n.Show(), want)
		}
		of, e := line.Parse(want)
		if e != api.OK || of.Show() != want || of.Trans.Show() != want || !same(of, line.Line{Kind: of.Kind, Trans: n}) {
			t.Error(want, of, e)
		}
	}
}

// P7.2: names and events as long as may be.
func TestTextLong(t *testing.T) {
	w := times(16, "w")
	for _, s := range []string{
		"chart " + w + " " + w, "state " + w + " " + w, "deep " + w + " " + w, "var " + w + " '" + times(48, " ") + "'",
		"on " + w + "." + w[1:] + " go " + w + " " + w + " " + w + " " + w + " inner do raise " + w + "." + w[1:],
	} {
		if n, e := line.Parse(s); n.Text() != s || e != api.OK {
			t.Error(s, n.Text(), e)
		}
		holds(t, s)
	}
	// A line of as many tokens as may be has none more when it is shown.
	for _, s := range []string{"on e inner do log " + times(57, "(") + "x" + times(57, ")"), "auto if " + times(58, "(") + "x" + times(58, ")") + " inner"} {
		if len(lex(s)) != api.MaxTokens {
			t.Error(len(lex(s)))
		}
		if holds(t, s) != api.OK {
			t.Error(s)
		}
	}
}

// P7.2: what is shown is changed by nothing that is done with it, and changes nothing.
func TestTextChangesNothing(t *testing.T) {
	goes := []string{"a", "b", "c", "d"}
	n := line.Line{Kind: line.On, Trans: line.Trans{Event: "e", Goes: goes[:2], Do: take("log 1")}}
	for range 3 {
		if n.Text() != "on e go a b do log 1" || n.Show() != n.Text() {
			t.Error(n.Text(), n.Show())
		}
	}
	if goes[0] != "a" || goes[1] != "b" || goes[2] != "c" || goes[3] != "d" {
		t.Error(goes)
	}
}

// P1: of whatever lines, each call ends.
func TestTextWild(t *testing.T) {
	texts := []string{"", "a", "a.b", "if", "*", " ", "'", "\x00\xff", times(1000, "a ")}
	c := chance{3}
	some := func() []act.Act {
		l := make([]act.Act, c.Below(3))
		for i := range l {
			l[i] = act.Act{Kind: c.Below(9) - 2, Name: c.Pick(texts...), N: int64(c.Below(9) - 4), X: make(expr.Expr, c.Below(40))}
		}
		return l
	}
	for _, kind := range []int{math.MinInt, -1, 0, 1, 2, 3, 4, 5, 6, 7, 8, 9, 10, 11, 12, 13, math.MaxInt} {
		for range 300 {
			n := line.Line{Kind: kind, Name: c.Pick(texts...), Start: c.Pick(texts...), V: val.Value{Kind: c.Below(6) - 1, N: int64(c.Below(5) - 2), S: c.Pick(texts...)}, Do: some()}
			n.Trans = line.Trans{Event: c.Pick(texts...), If: expr.Expr{{Op: c.Below(20) - 1, L: c.Below(5) - 2, R: c.Below(5) - 2}}, Goes: texts[:c.Below(9)], Inner: c.Below(2) == 0, Do: some()}
			if s := n.Text(); (kind < line.Chart || kind > line.End) && s != "" {
				t.Fatal(n, s)
			}
			n.Show()
		}
	}
}
