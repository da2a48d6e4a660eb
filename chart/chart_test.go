package chart_test

import (
	"math"
	"slices"
	"strings"
	"testing"

	"whirligig/act"
	"whirligig/api"
	"whirligig/chart"
	"whirligig/expr"
	"whirligig/line"
	"whirligig/val"
)

// parse is a chart of which it is known that it is right.
func parse(t *testing.T, text string) chart.Chart {
	t.Helper()
	c, e, at := chart.Parse(text)
	if e != api.OK {
		t.Fatalf("%q: %d %d", text, e, at)
	}
	return c
}

// P8.2: what is printed, and in which order.
func TestPrint(t *testing.T) {
	for text, want := range map[string]string{
		"chart c":            "chart c\n",
		" # x\n\n chart c s": "chart c s\n",
		"chart c\nvar x - 5\n var x 'a  b'\nvar t false":                                                                               "chart c\nvar x -5\nvar x 'a  b'\nvar t false\n",
		"chart c\nstate a s\nend\nfinal f\nend\nparallel p\nend\ndeep h a\nshallow g a":                                                "chart c\nstate a s\nend\nfinal f\nend\nparallel p\nend\ndeep h a\nshallow g a\n",
		"chart c\nstate a\nparallel b\nfinal f\nend\ndeep h f\nstate d\nend\nend\nshallow g b\nend\nstate e\nend":                      "chart c\nstate a\n  parallel b\n    final f\n    end\n    deep h f\n    state d\n    end\n  end\n  shallow g b\nend\nstate e\nend\n",
		"chart c\nstate a\nstate b\nend\nauto\nexit log(1)\ndeep h b\non e if(x)\nenter raise e;raise f\nexit log 2\nenter log 3\nend": "chart c\nstate a\n  enter raise e ; raise f\n  enter log 3\n  exit log 1\n  exit log 2\n  auto\n  on e if x\n  state b\n  end\n  deep h b\nend\n",
		"chart c\nfinal f\nauto do log 1\nexit log 2\nend":                                                                             "chart c\nfinal f\n  exit log 2\n  auto do log 1\nend\n",
		"chart c\n" + times(8, "state a\n") + "enter raise e\n" + times(8, "end\n"): "chart c\nstate a\n  state a\n    state a\n      state a\n        state a\n          state a\n            state a\n              state a\n                enter raise e\n" +
			"              end\n            end\n          end\n        end\n      end\n    end\n  end\nend\n",
	} {
		c := parse(t, text)
		if s := chart.Print(c); s != want {
			t.Errorf("%q: %q", text, s)
		}
		shown(t, c)
	}
}

// P8.2: nothing of a chart without states.
func TestPrintNone(t *testing.T) {
	for _, c := range []chart.Chart{{}, {Name: "c"}, {Name: "c", Vars: []chart.Var{{"x", val.Of(1)}}}, {States: []chart.State{}}} {
		if s := chart.Print(c); s != "" {
			t.Errorf("%v: %q", c, s)
		}
	}
}

// P8.2: a chart is printed as it is, also where that text is longer than a chart's text may be.
func TestPrintGreat(t *testing.T) {
	plain := "state a\n  enter log 1\n  enter log 2\n  enter log 3\n  enter log 4\n  on e\n  auto\nend\n"
	more := "state a\n  enter log 1\n  enter log 2\n  enter log 3\n  enter log 4\n  exit log 1\n  on e\n  auto\nend\n"
	text := "chart c\n" + times(33, plain) + times(15, more)
	wide := "chart c\nstate a\n  enter log '" + times(48, "x") + "'" + times(6, " ; log '"+times(48, "y")+"'") + "\nend\n"
	for given, want := range map[string]struct {
		text string
		fault
	}{
		strings.TrimSuffix(text, "\n"):       {text, fault{api.ErrMany, 401}},
		strings.ReplaceAll(wide, " ; ", ";"): {wide, fault{api.ErrLong, 3}},
	} {
		c := parse(t, given)
		if s := chart.Print(c); s != want.text {
			t.Errorf("%q", s)
		}
		tells(t, map[string]fault{chart.Print(c): want.fault})
		shown(t, c)
	}
}

// P8.3: names, and where they stand first.
func TestFind(t *testing.T) {
	c := parse(t, "chart c s\nvar x 1\nstate s\n  final a\n  end\n  deep h s\nend\nstate a\n  state c\n  end\n  state h\n  end\nend")
	for name, want := range map[string]int{"s": 1, "a": 2, "h": 3, "c": 5} {
		if i, ok := c.Find(name); i != want || !ok {
			t.Error(name, i, ok)
		}
	}
	for _, name := range []string{"", "x", "S", " s", "s ", "end", "ss"} {
		if i, ok := c.Find(name); i != 0 || ok {
			t.Error(name, i, ok)
		}
	}
	for _, c := range []chart.Chart{parse(t, "chart c"), {}, {Name: "c"}} {
		for _, name := range []string{"c", "", "s"} {
			if i, ok := c.Find(name); i != 0 || ok {
				t.Error(c, name, i, ok)
			}
		}
	}
}

// P8.3: who lies in whom.
func TestKidsWithin(t *testing.T) {
	c := parse(t, "chart c\nstate a\n  state b\n    deep h a\n  end\n  final f\n  end\nend\nparallel p\n  state d\n  end\nend\nshallow g a\n")
	kids := [][]int{{1, 5, 7}, {2, 4}, {3}, nil, nil, {6}, nil, nil}
	within := [][]int{nil, {0}, {1, 0}, {2, 1, 0}, {1, 0}, {0}, {5, 0}, {0}}
	for i := range c.States {
		if got := c.Kids(i); !slices.Equal(got, kids[i]) {
			t.Error("Kids", i, got)
		}
		for outer := -3; outer < 12; outer++ {
			if got := c.Within(i, outer); got != slices.Contains(within[i], outer) {
				t.Error("Within", i, outer, got)
			}
		}
	}
	for _, i := range []int{math.MinInt, -9, -1, 8, 9, math.MaxInt} {
		for outer := -3; outer < 12; outer++ {
			if c.Within(i, outer) {
				t.Error("Within", i, outer)
			}
		}
		if l := c.Kids(i); i != -1 && len(l) != 0 {
			t.Error("Kids", i, l)
		}
	}
	// The root's Parent is -1.
	if l := c.Kids(-1); !slices.Equal(l, []int{0}) {
		t.Error("Kids", l)
	}
	for _, c := range []chart.Chart{{}, {Name: "c"}} {
		if len(c.Kids(0))+len(c.Kids(-1)) != 0 || c.Within(0, 0) || c.Within(0, -1) || c.Within(-1, 0) {
			t.Error("of none")
		}
	}
}

// P8.3: of all sorts of charts.
func TestAsked(t *testing.T) {
	c := chance{4}
	for range 500 {
		s, e, _ := chart.Parse(strings.Join(c.lines(80), "\n"))
		for i := range s.States {
			name := s.States[i].Name
			first := 1 + slices.IndexFunc(s.States[1:], func(s chart.State) bool { return s.Name == name })
			if at, ok := s.Find(name); at != first || ok != (first > 0) {
				t.Fatal(e, name, at, ok, first)
			}
			if l := s.Kids(i); !slices.Equal(l, children(s, i)) {
				t.Fatal(i, l)
			}
			above := map[int]bool{}
			for k := s.States[i].Parent; k >= 0; k = s.States[k].Parent {
				above[k] = true
			}
			for k := range len(s.States) + 1 {
				if s.Within(i, k) != above[k] {
					t.Fatal(i, k, above)
				}
			}
		}
	}
}

// P8.3: which kinds are histories.
func TestPast(t *testing.T) {
	for k := -2; k < 20; k++ {
		if (chart.State{Kind: k}).Past() != (k == line.Deep || k == line.Shallow) {
			t.Error(k)
		}
	}
	// Just the Kind counts.
	if (chart.State{Name: "h", Kind: line.State, Start: "s"}).Past() || !(chart.State{Kind: line.Deep, Enter: [][]act.Act{nil}}).Past() {
		t.Error("Past")
	}
}

// P1: of whatever charts, each call ends.
func TestWild(t *testing.T) {
	c := chance{5}
	number := func() int {
		return [...]int{math.MinInt, -2, -1, 0, 1, 2, 3, 4, 5, 6, 7, math.MaxInt}[c.Below(12)]
	}
	for range 20000 {
		w := chart.Chart{Name: c.Maybe("c"), Vars: make([]chart.Var, c.Below(3)), States: make([]chart.State, c.Below(7))}
		for i := range w.States {
			s := chart.State{Name: c.Pick("a", "", "\n"), Kind: c.Below(14) - 1, Parent: number(), Start: c.Pick("", "a", "if")}
			if c.Below(4) == 0 {
				s.Kind = number()
			}
			if c.Below(2) == 0 {
				s.Enter = [][]act.Act{nil, {{Kind: number(), If: expr.Expr{{L: number()}}, Name: "\x00", X: expr.Expr{{Op: number(), R: number()}}}}}
				s.Exit = s.Enter
				s.Trans = []line.Trans{{}, {Event: "if", If: expr.Expr{{L: number()}}, Goes: []string{"", "a"}}}
			}
			w.States[i] = s
		}
		chart.Print(w)
		w.Find(c.Pick("a", "", "x"))
		for range 4 {
			i, outer := number(), number()
			w.Kids(i)
			w.Within(i, outer)
		}
	}
}
