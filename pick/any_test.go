package pick_test

import (
	"math"
	"slices"
	"testing"

	"whirligig/bits"
	"whirligig/chart"
	"whirligig/dice"
	"whirligig/expr"
	"whirligig/line"
	"whirligig/move"
	"whirligig/pick"
	"whirligig/queue"
	"whirligig/reading"
	"whirligig/snap"
	"whirligig/table"
	"whirligig/val"
)

// grove is what the charts with many transitions have.
var grove = reading.Grove{
	Vars: []string{"var n 0", "var m 1", "var b true", "var s 'a'"},
	Heads: []string{
		"on e", "on e", "on e", "on e.f", "on f", "on *", "on e if in(#)", "on e if not in(#)", "on e if b",
		"on e if n / m = 1", "on f if n % m = 0 or b", "on * if s = 'a'", "on e.f if s + s != 'abab'", "on f if n + m > 0 and in(#)",
		"auto", "auto if in(#)", "auto if 1 / n < m", "auto if b and not in(#)",
	},
}

// names are what events may be called.
var names = []string{"e", "f", "e.f", "g", "e.f.g", "", "*", "e.", ".e", "ef", "E", "done.state.s1", "error.execution"}

// at places tells where some transitions are.
func places(l []*reading.Way) []int {
	var p []int
	for _, w := range l {
		p = append(p, w.At)
	}
	return p
}

// apart tells whether no two of some transitions leave a common state.
func apart(x table.Table, s snap.Snap, l []int) bool {
	var all bits.Set
	for _, g := range l {
		leaves := move.Exits(x, s, g)
		if all&leaves != 0 {
			return false
		}
		all |= leaves
	}
	return true
}

// P16.1: charts made by chance, with snapshots made by chance, are held against what the SCXML algorithm selects.
func TestAny(t *testing.T) {
	d := dice.Dice(16)
	var several, fewer, errors int
	for _, text := range slices.Concat(reading.Charts(1, 300, 12), reading.Charts(2, 100, 48), grove.Charts(3, 300, 10), grove.Charts(4, 200, 25)) {
		x, c := reading.Both(text)
		for range 20 {
			s := c.Chance(&d)
			for _, name := range names {
				p, want := pick.Pick(x, s, name), c.Select(s, name)
				if !slices.Equal(p.List, places(want.Ways)) || p.Errors != want.Errors || !apart(x, s, p.List) {
					t.Fatalf("%s:\n%v: %q: %v, not %v %d", text, s, name, p, places(want.Ways), want.Errors)
				}
				several += max(0, len(p.List)-1)
				fewer += len(c.Enabled(s, name).Ways) - len(p.List)
				errors += p.Errors
			}
		}
	}
	if several < 5000 || fewer < 5000 || errors < 5000 {
		t.Error(several, fewer, errors)
	}
}

// What else there is in a snapshot plays no part.
func TestElse(t *testing.T) {
	d := dice.Dice(17)
	for _, text := range grove.Charts(5, 50, 12) {
		x, c := reading.Both(text)
		for range 20 {
			s := c.Chance(&d)
			name := dice.One(&d, names)
			want := pick.Pick(x, s, name)
			s.Status, s.Moves, s.Clock, s.Seq = d.Below(6), d.Below(9), int64(d.Below(9)), d.Below(9)
			s.Inner, s.Outer, s.Timers = []string{"e"}, []string{"f"}, []queue.Timer{{Due: 1, Name: "e"}}
			s.Last = snap.Last{Event: "e", Taken: []int{0}, Entered: s.In, Out: []string{"1"}}
			if p := pick.Pick(x, s, name); !slices.Equal(p.List, want.List) || p.Errors != want.Errors {
				t.Fatal(text, s, name, p, want)
			}
		}
	}
}

// with is a list with some room behind it, and what is in that.
func with[T any](room T, l ...T) ([]T, func() T) {
	l = append(slices.Clip(l), room)
	return l[:len(l)-1], func() T { return l[len(l)-1] }
}

// What is handed in stays as it is, its spare room too; what is told has memory of its own.
func TestMemory(t *testing.T) {
	x, s := at(t, crew, "p q a r c t")
	past, behind := with(bits.Of(7), s.Past...)
	data, last := with(val.Of(-7), s.Data...)
	s.Past, s.Data = past, data
	was := s.Copy()
	goes, of := slices.Clone(x.Goes), slices.Clone(x.Rows[3].Goes)
	for _, name := range []string{"out", "each", "h", "w", ""} {
		a, b := pick.Pick(x, s, name), pick.Pick(x, s, name)
		want := slices.Clone(b.List)
		for i := range a.List {
			a.List[i] = 99
		}
		_ = append(a.List, 98)
		if !slices.Equal(b.List, want) {
			t.Error(name, b)
		}
	}
	if !s.Same(was) || behind() != bits.Of(7) || last() != val.Of(-7) || !slices.Equal(x.Rows[3].Goes, of) {
		t.Error(s, behind(), last())
	}
	for i, g := range x.Goes {
		if g.Source != goes[i].Source || g.Event != goes[i].Event || !slices.Equal(g.Targets, goes[i].Targets) {
			t.Error(i, g)
		}
	}
}

// P1: of whatever tables and snapshots, the call ends, and tells places of transitions.
func TestWild(t *testing.T) {
	d := dice.Dice(18)
	numbers := []int{math.MinInt, -64, -1, 0, 0, 1, 1, 2, 2, 3, 3, 4, 4, 5, 6, 7, 62, 63, 64, 65, 69, 1 << 32, math.MaxInt}
	one := func() int { return dice.One(&d, numbers) }
	kinds := []int{line.Chart, line.State, line.State, line.State, line.Final, line.Parallel, line.Deep, line.Shallow, -1, math.MaxInt}
	set := func() bits.Set {
		return dice.One(&d, []bits.Set{0, 0, 1, 1 << 63, 1<<64 - 1, bits.Of(one(), one(), one()), bits.Of(one(), one(), one()), bits.Of(0, 1, 2)})
	}
	test, _ := expr.Read("n / n = 1 or in(a)")
	tests := []expr.Expr{nil, nil, nil, {}, test, test[1:], {{Op: -1}}, {{Op: val.Add, L: 0, R: 7}}, {{Op: expr.Lit, V: val.Of(1)}}, make(expr.Expr, 40)}
	for range 30000 {
		x := table.Table{Vars: make([]chart.Var, d.Below(3)), Rows: make([]table.Row, d.Below(8)), Goes: make([]table.Go, d.Below(5))}
		if d.Below(10) == 0 {
			x.Rows = make([]table.Row, 70)
		}
		for i := range x.Rows {
			x.Rows[i] = table.Row{Name: d.Pick("", "a"), Kind: dice.One(&d, kinds), Parent: one(), Start: one(), Up: set(), Under: set(), Kids: set(), Past: set(), Goes: []int{one(), one(), one()}}
		}
		for i := range x.Goes {
			x.Goes[i] = table.Go{Source: one(), Event: d.Pick("", "e", "*"), If: dice.One(&d, tests), Targets: []int{one(), one()}[d.Below(3)/2:], Inner: d.Below(2) == 0}
		}
		s := snap.Snap{Status: one(), In: set(), Past: make([]bits.Set, d.Below(9)), Data: make([]val.Value, d.Below(4))}
		for i := range s.Past {
			s.Past[i] = set()
		}
		for i := range x.Vars {
			x.Vars[i].Name = "n"
		}
		for _, name := range []string{"", "e", "*", "\xff"} {
			for _, g := range pick.Pick(x, s, name).List {
				if g < 0 || g >= len(x.Goes) {
					t.Fatal(x, s, name, g)
				}
			}
			pick.Pick(table.Table{}, s, name)
			pick.Pick(x, snap.Snap{}, name)
		}
	}
}

// P1: of a table that was made, places of no states are active, and variables have no value, or one of another kind.
func TestNone(t *testing.T) {
	x, s := at(t, "var n 0 | var b true | state a | on e if n > 0 | on f if b | on g | end", "a")
	s.In = s.In.With(0, 2, 40, 63)
	s.Data = s.Data[:1]
	for name, want := range map[string]pick.Picked{"e": {}, "f": {Errors: 1}, "g": {List: []int{2}}, "": {}} {
		if p := pick.Pick(x, s, name); !slices.Equal(p.List, want.List) || p.Errors != want.Errors {
			t.Error(name, p)
		}
	}
	s.Data = []val.Value{val.Word("x"), val.Of(1)}
	for name, want := range map[string]pick.Picked{"e": {Errors: 1}, "f": {Errors: 1}, "g": {List: []int{2}}} {
		if p := pick.Pick(x, s, name); !slices.Equal(p.List, want.List) || p.Errors != want.Errors {
			t.Error(name, p)
		}
	}
}

// P1: transitions that are in each other's way have no state for a Source, or are those of no state.
func TestLost(t *testing.T) {
	x, s := at(t, crew, "p q a r c t")
	for _, n := range []int{math.MinInt, -1, len(x.Rows), 63, 64, math.MaxInt} {
		y, z := x, x
		y.Goes, z.Rows = slices.Clone(x.Goes), slices.Clone(x.Rows)
		for i := range y.Goes {
			y.Goes[i].Source = n
		}
		for i := range z.Rows {
			z.Rows[i].Goes = append([]int{n}, z.Rows[i].Goes...)
		}
		// All leave all, and none lies within another one.
		if p := pick.Pick(y, s, "each"); !slices.Equal(p.List, []int{6, 14}) {
			t.Error(n, p)
		}
		if p := pick.Pick(z, s, "each"); !slices.Equal(p.List, []int{6, 11, 14}) {
			t.Error(n, p)
		}
	}
}
