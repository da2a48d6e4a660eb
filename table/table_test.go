package table_test

import (
	"math"
	"slices"
	"testing"

	"whirligig/act"
	"whirligig/bits"
	"whirligig/chart"
	"whirligig/dice"
	"whirligig/line"
	"whirligig/table"
)

// several holds what a table tells of several states against what it should be.
func several(t *testing.T, d *dice.Dice, c chart.Chart, x table.Table) {
	t.Helper()
	m := read(chart.Print(c))
	for range 60 {
		l := make([]int, 1+d.Below(4))
		for i := range l {
			l[i] = 1 + d.Below(len(m.states)-1)
		}
		if got, want := x.Around(l[0], l[1:]...), m.around(l...); got != want {
			t.Fatal(told(x), l, got, want)
		}
		s := bits.Of(d.Below(64), d.Below(64)).With(l...)
		var want []string
		for i, n := range m.states {
			if s.Has(i) {
				want = append(want, n.name)
			}
		}
		if got := x.Names(s); !slices.Equal(got, want) {
			t.Fatal(told(x), s.Show(), got, want)
		}
	}
}

// P11.2: which states are compound, atomic, or histories.
func TestKinds(t *testing.T) {
	const want = "ccap" + ".cpa" + "acpc" + "aaa"
	x := made(t, door)
	if len(x.Rows) != len(want) {
		t.Fatal(x.Rows)
	}
	for i := range x.Rows {
		if k := want[i]; x.Compound(i) != (k == 'c') || x.Atomic(i) != (k == 'a') || x.IsPast(i) != (k == 'p') {
			t.Error(i, string(k), x.Compound(i), x.Atomic(i), x.IsPast(i))
		}
	}
}

// P11.2: what is around some states, in whatever order they come, and how often.
func TestAround(t *testing.T) {
	x := made(t, door)
	for _, l := range []struct {
		of   []int
		want int
	}{
		{[]int{1}, 0}, {[]int{14}, 0}, {[]int{4}, 0}, {[]int{2}, 1}, {[]int{3}, 1}, {[]int{2, 3}, 1}, {[]int{1, 2}, 0},
		{[]int{5}, 0}, {[]int{9}, 0}, {[]int{5, 9}, 0}, {[]int{4, 5}, 0}, {[]int{6}, 5}, {[]int{7, 8}, 5}, {[]int{6, 7, 8}, 5}, {[]int{8, 8, 8, 8}, 5},
		{[]int{5, 8}, 0}, {[]int{8, 12}, 0}, {[]int{12}, 11}, {[]int{12, 12}, 11}, {[]int{11, 12}, 9}, {[]int{10, 12}, 9}, {[]int{12, 13}, 9}, {[]int{11, 13}, 9}, {[]int{9, 12}, 0},
		{[]int{12, 13, 8}, 0}, {[]int{2, 14}, 0}, {[]int{2, 8}, 0}, {[]int{12, 11, 10, 13}, 9}, {[]int{12, 12, 12, 10}, 9}, {[]int{12, 12, 12, 2}, 0},
	} {
		slices.Sort(l.of)
		for range l.of {
			l.of = append(l.of[1:], l.of[0])
			if got := x.Around(l.of[0], l.of[1:]...); got != l.want {
				t.Error(l.of, got, "not", l.want)
			}
		}
	}
	// What stands between a state and what is around it may be parallel ones alone.
	x = made(t, "chart c | state a | parallel p | parallel q | state b | end | state d | state e | end | end | end | end | end")
	for _, l := range [][]int{{2}, {3}, {4}, {5}, {4, 5}, {3, 6}, {4, 6}} {
		if got := x.Around(l[0], l[1:]...); got != 1 {
			t.Error(l, got)
		}
	}
	if x.Around(6) != 5 || x.Around(1) != 0 || x.Around(6, 1) != 0 {
		t.Error(x.Around(6), x.Around(1), x.Around(6, 1))
	}
}

// P11.2: names of states, of the root, of histories, and of none.
func TestFind(t *testing.T) {
	x := made(t, door)
	for name, want := range map[string]int{"shut": 1, "calm": 2, "open": 4, "left": 5, "wide": 8, "door": 11, "calmer": 12, "ends": 13, "gone": 14} {
		if i, ok := x.Find(name); i != want || !ok {
			t.Error(name, i, ok)
		}
	}
	for _, name := range []string{"", "again", "back", "last", "n", "who", "Shut", "shu", "shutt", " shut", "shut ", "knock", "*", "if", "\x00", "state"} {
		if i, ok := x.Find(name); i != 0 || ok {
			t.Error(name, i, ok)
		}
	}
	for _, text := range []string{"chart c | state a | end", "chart c c | state c | end | deep a c"} {
		x := made(t, text)
		for _, name := range []string{"a", "c"} {
			i, ok := x.Find(name)
			if want := x.Rows[1].Name == name; ok != want || ok != (i == 1) || !ok && i != 0 {
				t.Error(text, name, i, ok)
			}
		}
	}
}

// P11.2: names come rising by places, not by letters; places of no state are left out.
func TestNames(t *testing.T) {
	x := made(t, door)
	for s, want := range map[bits.Set][]string{
		0:                          nil,
		bits.Of(0):                 {"door"},
		bits.Of(0, 11):             {"door", "door"},
		bits.Of(14, 3, 1, 4):       {"shut", "again", "open", "gone"},
		bits.Of(6, 10):             {"back", "last"},
		bits.Of(15):                nil,
		bits.Of(63):                nil,
		bits.Of(15, 16, 14, 40):    {"gone"},
		1<<64 - 1:                  {"door", "shut", "calm", "again", "open", "left", "back", "ajar", "wide", "right", "last", "door", "calmer", "ends", "gone"},
		bits.Of(64, -1, 13, 1<<32): {"ends"},
	} {
		if got := x.Names(s); !slices.Equal(got, want) {
			t.Error(s.Show(), got, "not", want)
		}
	}
}

// What is handed in stays as it is, its spare room too; each answer has memory of its own.
func TestAskedStays(t *testing.T) {
	x := made(t, door)
	was := told(x)
	room := []int{12, 13, 10, 9, 1, 2, 3}
	before := slices.Clone(room)
	if x.Around(11, room[:3]...) != 9 || !slices.Equal(room, before) {
		t.Error(room)
	}
	a, b := x.Names(bits.Of(1, 2)), x.Names(bits.Of(1, 2))
	a[0], a[1] = "x", "y"
	if !slices.Equal(b, []string{"shut", "calm"}) || !slices.Equal(told(x), was) {
		t.Error(b, told(x))
	}
}

// P1: of whatever tables and places, all calls end.
func TestAskedWild(t *testing.T) {
	d := dice.Dice(7)
	places := []int{math.MinInt, -2, -1, 0, 1, 2, 3, 4, 5, 63, 64, 65, 1 << 32, math.MaxInt}
	all := func() bits.Set {
		return bits.Of(dice.One(&d, places), dice.One(&d, places), dice.One(&d, places))
	}
	for range 20000 {
		x := table.Table{Rows: make([]table.Row, d.Below(6)), Goes: make([]table.Go, d.Below(3))}
		if d.Below(10) == 0 {
			x.Rows = make([]table.Row, 70)
		}
		for i := range x.Rows {
			x.Rows[i] = table.Row{Name: d.Pick("", "a", "b"), Kind: dice.One(&d, append(places, line.State, line.Parallel, line.Deep)), Parent: dice.One(&d, places), Start: dice.One(&d, places), Up: all(), Under: all(), Kids: all(), Past: all(), Goes: places, Enter: [][]act.Act{nil}}
		}
		for _, i := range places {
			x.Compound(i)
			x.Atomic(i)
			x.IsPast(i)
			x.Around(i, dice.One(&d, places), dice.One(&d, places))
			x.Around(i)
		}
		x.Find(d.Pick("", "a", "z"))
		x.Names(all())
		x.Names(1<<64 - 1)
	}
	x := made(t, door)
	for _, i := range []int{math.MinInt, -1, 15, 63, 64, math.MaxInt} {
		if x.Compound(i) || x.Atomic(i) || x.IsPast(i) {
			t.Error(i)
		}
	}
}
