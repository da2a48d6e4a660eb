package snap_test

import (
	"fmt"
	"slices"
	"strings"
	"testing"

	"whirligig/api"
	"whirligig/bits"
	"whirligig/chart"
	"whirligig/dice"
	"whirligig/queue"
	"whirligig/snap"
	"whirligig/table"
	"whirligig/val"
)

// tableOf is the table of a chart, and whether it is valid; a bar between blanks parts its lines, too.
func tableOf(text string) (table.Table, bool) {
	c, e, _ := chart.Parse(strings.ReplaceAll(text, " | ", "\n"))
	if e != api.OK {
		return table.Table{}, false
	}
	x, e := table.Make(c)
	return x, e == api.OK
}

// made is the table of a chart of which it is known that it is valid, and what its text tells.
func made(t *testing.T, text string) (table.Table, model) {
	t.Helper()
	x, ok := tableOf(text)
	if !ok {
		t.Fatal(text)
	}
	return x, read(text)
}

// state is one of a chart, as its text tells it.
type state struct {
	word, name string
	kids       []int
}

// variable is one of a chart, as its text tells it.
type variable struct{ name, value string }

// model is a chart, as its text tells it.
type model struct {
	vars   []variable
	states []state
}

// read reads a chart's text.
func read(text string) model {
	var m model
	open := []int{}
	for _, s := range strings.Split(strings.ReplaceAll(text, " | ", "\n"), "\n") {
		l := append(strings.SplitN(strings.TrimLeft(s, " "), " ", 3), "", "")
		switch l[0] {
		case "var":
			m.vars = append(m.vars, variable{l[1], l[2]})
		case "end":
			open = open[:len(open)-1]
		case "chart", "state", "parallel", "final", "deep", "shallow":
			at := len(m.states)
			m.states = append(m.states, state{word: l[0], name: l[1]})
			if at > 0 {
				in := &m.states[open[len(open)-1]]
				in.kids = append(in.kids, at)
			}
			if !m.past(at) {
				open = append(open, at)
			}
		}
	}
	return m
}

// past tells whether a state is a history.
func (m model) past(i int) bool { return m.states[i].word == "deep" || m.states[i].word == "shallow" }

// kids are a state's children that are no histories.
func (m model) kids(i int) []int {
	return slices.DeleteFunc(slices.Clone(m.states[i].kids), m.past)
}

// names are those of the states that are in a set.
func (m model) names(s bits.Set) []string {
	var l []string
	for i, n := range m.states {
		if uint64(s)>>i&1 == 1 {
			l = append(l, n.name)
		}
	}
	return l
}

// goes goes from a state to what must be active with it, if of each compound one the first Kid that is in a set is, and adds all of these to another set; false, if of one none is.
func (m model) goes(i int, s bits.Set, to *bits.Set) bool {
	kids := m.kids(i)
	if m.states[i].word != "parallel" && len(kids) > 0 {
		at := slices.IndexFunc(kids, s.Has)
		if at < 0 {
			return false
		}
		kids = kids[at : at+1]
	}
	for _, k := range kids {
		*to |= 1 << k
		if !m.goes(k, s, to) {
			return false
		}
	}
	return true
}

// legal tells whether the states in a set can be active together: they are what one comes to from the root on.
func (m model) legal(s bits.Set) bool {
	var to bits.Set
	return m.goes(0, s, &to) && s == to
}

// ways is how many sets of states that lie within a state can be active together, if it is.
func (m model) ways(i int) int {
	kids := m.kids(i)
	if len(kids) == 0 {
		return 1
	}
	sum, product := 0, 1
	for _, k := range kids {
		sum += m.ways(k)
		product *= m.ways(k)
	}
	if m.states[i].word == "parallel" {
		return product
	}
	return sum
}

// some are states that can be active together if a state is, made by chance.
func (m model) some(d *dice.Dice, i int) bits.Set {
	kids := m.kids(i)
	if m.states[i].word != "parallel" && len(kids) > 0 {
		kids = []int{dice.One(d, kids)}
	}
	var s bits.Set
	for _, k := range kids {
		s |= 1<<k | m.some(d, k)
	}
	return s
}

// lines are what a snapshot's lines should be.
func (m model) lines(s snap.Snap) []string {
	var b strings.Builder
	add := func(word string, l ...any) {
		b.WriteString(word)
		for _, x := range l {
			fmt.Fprint(&b, " ", x)
		}
		b.WriteString("\n")
	}
	names := func(s bits.Set) []any { return anys(m.names(s)) }
	add([]string{"", "fresh", "running", "done", "halted"}[s.Status], "moves", s.Moves, "clock", s.Clock)
	add("in", names(s.In)...)
	for i, v := range m.vars {
		add("var", v.name, shown(s.Data[i]))
	}
	add("inner", anys(s.Inner)...)
	add("outer", anys(s.Outer)...)
	for _, w := range s.Timers {
		add("timer", w.Name, w.Due)
	}
	for i, n := range m.states {
		if s.Past[i] != 0 {
			add("past", append([]any{n.name}, names(s.Past[i])...)...)
		}
	}
	if s.Last.Event > "" {
		add("event", s.Last.Event)
	}
	if s.Last.Taken != nil {
		add("taken", anys(s.Last.Taken)...)
	}
	if s.Last.Entered > 0 {
		add("entered", names(s.Last.Entered)...)
	}
	for _, o := range s.Last.Out {
		add("out", o)
	}
	return strings.Split(strings.TrimSuffix(b.String(), "\n"), "\n")
}

// anys are things of any kind.
func anys[T any](l []T) []any {
	var out []any
	for _, x := range l {
		out = append(out, x)
	}
	return out
}

// shown is a value as a text.
func shown(v val.Value) string {
	switch v.Kind {
	case val.Int:
		return fmt.Sprint(v.N)
	case val.Bool:
		return fmt.Sprint(v.N == 1)
	}
	return "'" + v.S + "'"
}

// chance is a snapshot of a chart in which all is made by chance; lists that have nothing are nil.
func (m model) chance(d *dice.Dice) snap.Snap {
	number := func() int { return dice.One(d, []int{0, 1, 2, 9, 10, 512, 1 << 40}) }
	set := func() bits.Set {
		var s bits.Set
		for range d.Below(4) * d.Below(4) {
			s |= 1 << (1 + d.Below(len(m.states)-1))
		}
		return s
	}
	name := func() string { return d.Pick("e", "e.f", "error.execution", "done.state.s01", "t.u.v") }
	s := snap.Snap{Status: 1 + d.Below(4), Moves: number(), Clock: int64(number()), Seq: number(), In: set()}
	for i := range m.states {
		s.Past = append(s.Past, 0)
		if m.past(i) {
			s.Past[i] = set()
		}
	}
	for range m.vars {
		s.Data = append(s.Data, value(d))
	}
	s.Inner, s.Outer = upTo(d, name), upTo(d, name)
	s.Timers = upTo(d, func() queue.Timer { return queue.Timer{Due: int64(number()), Seq: number(), Name: name()} })
	s.Taken = upTo(d, number)
	s.Entered = set()
	s.Out = upTo(d, func() string { return shown(value(d)) })
	if d.Below(2) == 0 {
		s.Event = name()
	}
	return s
}

// value is one that is made by chance.
func value(d *dice.Dice) val.Value {
	return dice.One(d, []val.Value{val.Of(0), val.Of(7), val.Of(-1), val.Of(-1 << 63), val.Of(1<<63 - 1), val.Truth(true), val.Truth(false), val.Word(""), val.Word("a b"), val.Word("  ")})
}

// upTo are up to eight things; nil, if there are none.
func upTo[T any](d *dice.Dice, one func() T) []T {
	var l []T
	for range d.Below(3) * d.Below(5) {
		l = append(l, one())
	}
	return l
}

// charts are so many valid charts, made by chance, of up to so many states.
func charts(seed, many, most int) []string {
	c := dice.Charts{Dice: dice.Dice(seed)}
	var l []string
	for len(l) < many {
		text := c.Text(1 + c.Below(most))
		if x, ok := tableOf(text); ok && len(x.Rows) <= most+1 {
			l = append(l, text)
		}
	}
	return l
}
