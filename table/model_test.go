package table_test

import (
	"slices"
	"strconv"
	"strings"
	"testing"

	"whirligig/act"
	"whirligig/api"
	"whirligig/bits"
	"whirligig/chart"
	"whirligig/line"
	"whirligig/table"
	"whirligig/valid"
)

// words are those of the lines that make a state, by the states' kinds.
var words = []string{line.Chart: "chart", line.State: "state", line.Parallel: "parallel", line.Final: "final", line.Deep: "deep", line.Shallow: "shallow"}

// told is a table, line by line.
func told(x table.Table) []string {
	var l []string
	for _, v := range x.Vars {
		l = append(l, "var "+v.Name+" "+v.V.Show())
	}
	for i, r := range x.Rows {
		l = append(l, row(words[r.Kind], r.Name, r.Parent, r.Start, i, r.Up.List(), r.Under.List(), r.Kids.List(), r.Past.List(), r.Goes))
		for _, a := range r.Enter {
			l = append(l, "enter "+act.Show(a...))
		}
		for _, a := range r.Exit {
			l = append(l, "exit "+act.Show(a...))
		}
	}
	for _, g := range x.Goes {
		var names []string
		for _, to := range g.Targets {
			names = append(names, x.Rows[to].Name)
		}
		l = append(l, way(g.Source, g.Targets, line.Trans{Event: g.Event, If: g.If, Goes: names, Inner: g.Inner, Do: g.Do}.Show()))
	}
	return l
}

// row is a state's row as a line.
func row(word, name string, parent, start, at int, up, under, kids, past, goes []int) string {
	return strconv.Itoa(at) + " " + word + " " + name + " in " + strconv.Itoa(parent) + " start " + strconv.Itoa(start) +
		" up " + list(up) + " under " + list(under) + " kids " + list(kids) + " past " + list(past) + " goes " + list(goes)
}

// way is a transition as a line.
func way(source int, targets []int, text string) string {
	return "from " + strconv.Itoa(source) + " to " + list(targets) + ": " + text
}

// list is numbers as a text; - is none.
func list(l []int) string {
	if len(l) == 0 {
		return "-"
	}
	var s []string
	for _, n := range l {
		s = append(s, strconv.Itoa(n))
	}
	return strings.Join(s, ",")
}

// state is one of a chart, as its text tells it.
type state struct {
	word, name, start string
	deep, parent      int
	enter, exit       []string
	trans             []string
}

// model is a chart, as its text tells it: what lies in what is told by how far in it stands.
type model struct {
	vars   []string
	states []state
}

// read reads what a chart that was parsed is printed as.
func read(text string) model {
	var m model
	for s := range strings.Lines(text) {
		s = strings.TrimSuffix(s, "\n")
		bare := strings.TrimLeft(s, " ")
		deep := (len(s) - len(bare)) / 2
		l := append(strings.Split(bare, " "), "", "")
		in := len(m.states) - 1
		switch l[0] {
		case "chart":
			m.states = append(m.states, state{word: l[0], name: l[1], start: l[2], deep: -1, parent: -1})
		case "var":
			m.vars = append(m.vars, bare)
		case "enter":
			m.states[in].enter = append(m.states[in].enter, bare)
		case "exit":
			m.states[in].exit = append(m.states[in].exit, bare)
		case "on", "auto":
			m.states[in].trans = append(m.states[in].trans, bare)
		case "end":
		default:
			for m.states[in].deep >= deep {
				in--
			}
			m.states = append(m.states, state{word: l[0], name: l[1], start: l[2], deep: deep, parent: in})
		}
	}
	return m
}

// past tells whether a state is a history.
func (m model) past(i int) bool { return m.states[i].word == "deep" || m.states[i].word == "shallow" }

// those are the places of the states of which something holds.
func (m model) those(is func(i int) bool) []int {
	var l []int
	for i := range m.states {
		if is(i) {
			l = append(l, i)
		}
	}
	return l
}

// within tells whether a state lies within another one.
func (m model) within(i, outer int) bool {
	p := m.states[i].parent
	return p >= 0 && (p == outer || m.within(p, outer))
}

// kids are a state's children that are histories, or that are none.
func (m model) kids(in int, past bool) []int {
	return m.those(func(i int) bool { return m.states[i].parent == in && m.past(i) == past })
}

// place is the place of the state with a name, beside the root.
func (m model) place(name string) int {
	return m.those(func(i int) bool { return i > 0 && m.states[i].name == name })[0]
}

// start is what a state's Start should be.
func (m model) start(i int) int {
	s := m.states[i]
	kids := m.kids(i, false)
	switch {
	case s.start != "":
		return m.place(s.start)
	case (s.word == "state" || s.word == "chart") && len(kids) > 0:
		return kids[0]
	}
	return -1
}

// table is what the chart's table should be, line by line.
func (m model) table() []string {
	l := slices.Clone(m.vars)
	var ways []string
	for i, s := range m.states {
		var goes []int
		for _, text := range s.trans {
			goes = append(goes, len(ways))
			ways = append(ways, way(i, m.targets(text), text))
		}
		up := m.those(func(k int) bool { return m.within(i, k) })
		under := m.those(func(k int) bool { return m.within(k, i) })
		l = append(l, row(s.word, s.name, s.parent, m.start(i), i, up, under, m.kids(i, false), m.kids(i, true), goes))
		l = append(append(l, s.enter...), s.exit...)
	}
	return append(l, ways...)
}

// targets are the places of the states that the text of a transition names.
func (m model) targets(text string) []int {
	_, s, ok := strings.Cut(text, " go ")
	if !ok {
		return nil
	}
	s, _, _ = strings.Cut(s, " do ")
	var l []int
	for _, name := range strings.Fields(strings.TrimSuffix(s, " inner")) {
		l = append(l, m.place(name))
	}
	return l
}

// compound tells whether a state should be compound.
func (m model) compound(i int) bool {
	return (i == 0 || m.states[i].word == "state") && len(m.kids(i, false)) > 0
}

// atomic tells whether a state should be atomic.
func (m model) atomic(i int) bool {
	return (m.states[i].word == "state" || m.states[i].word == "final") && len(m.kids(i, false)) == 0
}

// around is what should be around some states: of all that may be, the one that lies within all others.
func (m model) around(l ...int) int {
	all := m.those(func(o int) bool {
		return m.compound(o) && !slices.ContainsFunc(l, func(i int) bool { return !m.within(i, o) })
	})
	return slices.MaxFunc(all, func(a, b int) int { return m.states[a].deep - m.states[b].deep })
}

// holds holds what Make tells of a chart, and what the table tells, against what they should be; it answers the error.
func holds(t *testing.T, c chart.Chart) api.Errno {
	t.Helper()
	x, e := table.Make(c)
	if want, _ := valid.Check(c); e != want {
		t.Fatalf("%s: %d, not %d", chart.Print(c), e, want)
	}
	if e != api.OK {
		if x.Vars != nil || x.Rows != nil || x.Goes != nil {
			t.Fatalf("%s: %v beside %d", chart.Print(c), x, e)
		}
		return e
	}
	m := read(chart.Print(c))
	if got, want := told(x), m.table(); !slices.Equal(got, want) {
		t.Fatalf("%s:\n%s\nnot\n%s", chart.Print(c), strings.Join(got, "\n"), strings.Join(want, "\n"))
	}
	m.asked(t, x)
	return e
}

// asked holds what a table tells of each state against what it should be.
func (m model) asked(t *testing.T, x table.Table) {
	t.Helper()
	for i, s := range m.states {
		if x.Compound(i) != m.compound(i) || x.Atomic(i) != m.atomic(i) || x.IsPast(i) != m.past(i) {
			t.Fatal(told(x), i, x.Compound(i), x.Atomic(i), x.IsPast(i))
		}
		if l := x.Names(bits.Of(i)); !slices.Equal(l, []string{s.name}) {
			t.Fatal(told(x), i, l)
		}
		// The root may have another one's name.
		at := m.those(func(k int) bool { return k > 0 && m.states[k].name == s.name && !m.past(k) })
		if n, ok := x.Find(s.name); ok != (len(at) == 1) || n != append(at, 0)[0] {
			t.Fatal(told(x), s.name, n, ok)
		}
		if i == 0 {
			continue
		}
		if got, want := x.Around(i), m.around(i); got != want {
			t.Fatal(told(x), i, got, want)
		}
	}
}
