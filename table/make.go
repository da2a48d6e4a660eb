package table

import (
	"whirligig/api"
	"whirligig/bits"
	"whirligig/chart"
	"whirligig/line"
	"whirligig/valid"
)

// maker makes a table of a chart.
type maker struct {
	Table
	chart.Chart
}

// Make is a chart's table.
func Make(c chart.Chart) (Table, api.Errno) {
	if e, _ := valid.Check(c); e != api.OK {
		return Table{}, e
	}
	m := maker{Table{Vars: c.Vars}, c}
	for i := range m.States {
		m.add(i)
	}
	return m.Table, api.OK
}

// add adds a state's row, and its transitions.
func (m *maker) add(i int) {
	s := m.States[i]
	r := Row{Name: s.Name, Kind: s.Kind, Parent: s.Parent, Enter: s.Enter, Exit: s.Exit}
	r.Up, r.Under = m.around(i)
	r.Kids, r.Past = m.children(i)
	r.Start = m.start(s, r.Kids)
	for _, t := range s.Trans {
		r.Goes = append(r.Goes, len(m.Goes))
		m.Goes = append(m.Goes, Go{Source: i, Event: t.Event, If: t.If, Targets: m.places(t.Goes), Inner: t.Inner, Do: t.Do})
	}
	m.Rows = append(m.Rows, r)
}

// around is what a state lies within, and what lies within it.
func (m *maker) around(i int) (up, under bits.Set) {
	for k := range m.States {
		if m.Within(i, k) {
			up = up.With(k)
		}
		if m.Within(k, i) {
			under = under.With(k)
		}
	}
	return up, under
}

// children are a state's children that are no histories, and those that are.
func (m *maker) children(i int) (kids, past bits.Set) {
	for _, k := range m.Kids(i) {
		if m.States[k].Past() {
			past = past.With(k)
		} else {
			kids = kids.With(k)
		}
	}
	return kids, past
}

// start is the place of the state that one begins in; -1: in none, or not in one alone.
func (m *maker) start(s chart.State, kids bits.Set) int {
	if s.Start != "" {
		return m.place(s.Start)
	}
	if s.Kind == line.Chart || s.Kind == line.State {
		return kids.First()
	}
	return -1
}

// places are the places of the states with some names.
func (m *maker) places(names []string) []int {
	var l []int
	for _, name := range names {
		l = append(l, m.place(name))
	}
	return l
}

// place is the place of the state with a name; in a valid chart there is one.
func (m *maker) place(name string) int {
	// The table has a Find of its own, which finds no histories; a transition may go to one.
	at, _ := m.Chart.Find(name)
	return at
}
