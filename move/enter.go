package move

import (
	"whirligig/bits"
	"whirligig/line"
	"whirligig/snap"
	"whirligig/table"
)

// Enters are the states that some transitions enter.
func Enters(t table.Table, s snap.Snap, goes ...int) bits.Set {
	m := gatherer{Table: t, now: s}
	for _, g := range goes {
		if in, ok := m.domain(g); ok {
			m.enter(in, t.Goes[g].Targets...)
		}
	}
	return m.entered
}

// First are the states that a chart enters at first.
func First(t table.Table, s snap.Snap) bits.Set {
	m := gatherer{Table: t, now: s}
	m.enter(0, m.row(0).Start)
	return m.entered
}

// enter adds some states, in order, and then what their targets lie within, up to another one.
func (m *gatherer) enter(outer int, l ...int) {
	for _, i := range l {
		m.add(i)
	}
	for i := range m.targets(l...).All() {
		m.addAround(i, outer)
	}
}

// add adds a state, and what is entered with it.
func (m *gatherer) add(i int) {
	was := m.added
	m.added = was.With(i)
	// To add a state once more would add nothing; and where states lie within one another in a circle, as in no chart's table, it would not end.
	if m.added == was {
		return
	}
	if m.IsPast(i) {
		m.enter(m.Rows[i].Parent, m.targets(i).List()...)
		return
	}
	m.entered = m.entered.With(i)
	if m.Compound(i) {
		m.enter(i, m.Rows[i].Start)
	}
	m.addKids(i)
}

// addKids adds, if a state is parallel, those of its Kids within which nothing is entered yet.
func (m *gatherer) addKids(i int) {
	r := m.row(i)
	if r.Kind != line.Parallel {
		return
	}
	for k := range r.Kids.All() {
		if m.entered.Meet(m.row(k).Under).Count() == 0 {
			m.add(k)
		}
	}
}

// addAround adds what a state lies within, up to another one.
func (m *gatherer) addAround(i, outer int) {
	// What the other one lies within is left out, so the root always is.
	up := m.row(i).Up.Less(m.row(outer).Up).Without(outer)
	// A state stands behind what it lies within: falling, they come from the inside out.
	for o := range up.Back() {
		m.entered = m.entered.With(o)
		m.addKids(o)
	}
}
