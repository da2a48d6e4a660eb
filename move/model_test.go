package move_test

import (
	"slices"
	"strings"
	"testing"

	"whirligig/api"
	"whirligig/bits"
	"whirligig/chart"
	"whirligig/dice"
	"whirligig/snap"
	"whirligig/table"
)

// node is a state of a chart, as its text tells it.
type node struct {
	at          int
	word, start string
	in          *node
	kids        []*node // its children, histories too
	ways        []*way
}

// way is a transition, as its text tells it.
type way struct {
	source *node
	names  []string
	goes   []*node
	inner  bool
}

// model is a chart, as its text tells it.
type model struct {
	all   []*node
	named map[string]*node // those beside the root
	ways  []*way
}

// read reads a chart's text.
func read(text string) *model {
	m := &model{named: map[string]*node{}}
	var open []*node
	for s := range strings.SplitSeq(text, "\n") {
		s = strings.TrimLeft(s, " ")
		l := append(strings.Fields(s), "", "", "")
		switch l[0] {
		case "on", "auto":
			in := open[len(open)-1]
			in.ways = append(in.ways, readWay(in, s))
		case "end":
			open = open[:len(open)-1]
		case "chart", "state", "parallel", "final", "deep", "shallow":
			n := &node{at: len(m.all), word: l[0], start: l[2]}
			m.all = append(m.all, n)
			if l[0] != "chart" {
				n.in = open[len(open)-1]
				n.in.kids = append(n.in.kids, n)
				m.named[l[1]] = n
			}
			if !n.past() {
				open = append(open, n)
			}
		}
	}
	for _, n := range m.all {
		for _, w := range n.ways {
			for _, name := range w.names {
				w.goes = append(w.goes, m.named[name])
			}
			m.ways = append(m.ways, w)
		}
	}
	return m
}

// readWay reads a transition; where it goes stands ahead of what it does.
func readWay(source *node, s string) *way {
	s, _, _ = strings.Cut(s, " do ")
	w := &way{source: source}
	s, w.inner = strings.CutSuffix(s, " inner")
	_, s, _ = strings.Cut(s, " go ")
	w.names = strings.Fields(s)
	return w
}

// past tells whether a state is a history.
func (n *node) past() bool { return n.word == "deep" || n.word == "shallow" }

// states are a state's children that are no histories.
func (n *node) states() []*node { return slices.DeleteFunc(slices.Clone(n.kids), (*node).past) }

// compound tells whether just one of a state's children is always active with it.
func (n *node) compound() bool { return n.word != "parallel" && len(n.states()) > 0 }

// atomic tells whether nothing can be active in a state.
func (n *node) atomic() bool { return !n.past() && len(n.states()) == 0 }

// within tells whether a state lies within another one.
func (n *node) within(o *node) bool { return n.in != nil && (n.in == o || n.in.within(o)) }

// first is the state that a compound one, or a history, begins with.
func (m *model) first(n *node) *node {
	if n.start != "" {
		return m.named[n.start]
	}
	return n.states()[0]
}

// nodes are some states: each is there, or not.
type nodes map[*node]bool

// set is the set of the places of some states.
func (l nodes) set() bits.Set {
	var s bits.Set
	for n, is := range l {
		if is {
			s |= 1 << n.at
		}
	}
	return s
}

// of are the states of a set.
func (m *model) of(s bits.Set) nodes {
	l := nodes{}
	for _, n := range m.all {
		if uint64(s)>>n.at&1 == 1 {
			l[n] = true
		}
	}
	return l
}

// sorted are some states as they stand in the chart.
func (m *model) sorted(l nodes) []*node {
	return slices.DeleteFunc(slices.Clone(m.all), func(n *node) bool { return !l[n] })
}

// targets are what some states, or histories, lead to.
func (m *model) targets(s snap.Snap, l []*node) nodes {
	to := nodes{}
	for _, n := range l {
		if !n.past() {
			to[n] = true
			continue
		}
		was := m.sorted(m.of(s.Past[n.at]))
		if len(was) == 0 {
			was = []*node{m.first(n)}
		}
		for _, k := range was {
			to[k] = true
		}
	}
	return to
}

// domain is the domain of a transition; nil: it has none.
func (m *model) domain(s snap.Snap, w *way) *node {
	to := m.sorted(m.targets(s, w.goes))
	if len(to) == 0 {
		return nil
	}
	to = append(to, w.goes...)
	holds := func(o *node) bool {
		return o.compound() && !slices.ContainsFunc(to, func(n *node) bool { return !n.within(o) })
	}
	if w.inner && holds(w.source) {
		return w.source
	}
	o := w.source.in
	for !holds(o) {
		o = o.in
	}
	return o
}

// exits are what some transitions leave.
func (m *model) exits(s snap.Snap, goes []int) bits.Set {
	l := nodes{}
	for _, g := range goes {
		if o := m.domain(s, m.ways[g]); o != nil {
			for n := range m.of(s.In) {
				l[n] = l[n] || n.within(o)
			}
		}
	}
	return l.set()
}

// remember is what all histories remember, when some states are left.
func (m *model) remember(s snap.Snap, exits bits.Set) []bits.Set {
	l := slices.Clone(s.Past)
	for _, h := range m.all {
		if !h.past() || !m.of(exits)[h.in] {
			continue
		}
		was := nodes{}
		for n := range m.of(s.In) {
			was[n] = h.word == "deep" && n.within(h.in) && n.atomic() || h.word == "shallow" && n.in == h.in
		}
		l[h.at] = was.set()
	}
	return l
}

// entry gathers what is entered, by the words of the SCXML algorithm.
type entry struct {
	*model
	s  snap.Snap
	to nodes
}

// enters are what some transitions enter.
func (m *model) enters(s snap.Snap, goes []int) bits.Set {
	e := entry{m, s, nodes{}}
	for _, g := range goes {
		w := m.ways[g]
		o := m.domain(s, w)
		if o == nil {
			continue
		}
		for _, n := range w.goes {
			e.descend(n)
		}
		for _, n := range m.sorted(m.targets(s, w.goes)) {
			e.ascend(n, o)
		}
	}
	return e.to.set()
}

// begins are what a chart enters at first.
func (m *model) begins() bits.Set {
	e := entry{m, snap.Snap{}, nodes{}}
	e.descend(m.first(m.all[0]))
	return e.to.set()
}

// descend adds a state, and what is entered in it.
func (e entry) descend(n *node) {
	if n.past() {
		l := e.sorted(e.targets(e.s, []*node{n}))
		for _, k := range l {
			e.descend(k)
		}
		for _, k := range l {
			e.ascend(k, n.in)
		}
		return
	}
	e.to[n] = true
	if n.compound() {
		e.descend(e.first(n))
	} else {
		e.spread(n)
	}
}

// ascend adds what a state lies within, up to another one.
func (e entry) ascend(n, to *node) {
	for o := n.in; o != to; o = o.in {
		e.to[o] = true
		if o.word == "parallel" {
			e.spread(o)
		}
	}
}

// spread adds the children of a state in which nothing is entered yet.
func (e entry) spread(n *node) {
	for _, k := range n.states() {
		some := false
		for o, is := range e.to {
			some = some || is && o.within(k)
		}
		if !some {
			e.descend(k)
		}
	}
}

// whole adds a state with all that must be active with it, so that some targets are: of a compound one the child that is one, or in which one is, else its first one.
func (m *model) whole(n *node, targets, to nodes) {
	to[n] = true
	kids := n.states()
	if n.compound() {
		at := slices.IndexFunc(kids, func(k *node) bool {
			return targets[k] || slices.ContainsFunc(m.sorted(targets), func(t *node) bool { return t.within(k) })
		})
		kids = []*node{m.first(n)}
		if at >= 0 {
			kids = n.states()[at : at+1]
		}
	}
	for _, k := range kids {
		m.whole(k, targets, to)
	}
}

// apart are what transitions enter that aren't in each other's way: what must be active within the domain of each one for its targets to be.
func (m *model) apart(s snap.Snap, goes []int) bits.Set {
	var all bits.Set
	for _, g := range goes {
		if o := m.domain(s, m.ways[g]); o != nil {
			to := nodes{}
			m.whole(o, m.targets(s, m.ways[g].goes), to)
			to[o] = false
			all |= to.set()
		}
	}
	return all
}

// some are states that can be active together within one, made by chance.
func (m *model) some(d *dice.Dice, in *node) bits.Set {
	kids := in.states()
	if in.compound() {
		kids = []*node{dice.One(d, kids)}
	}
	var s bits.Set
	for _, k := range kids {
		s |= 1<<k.at | m.some(d, k)
	}
	return s
}

// chance is a snapshot made by chance: states that can be active together, and histories that remember what they once would, or nothing.
func (m *model) chance(d *dice.Dice) snap.Snap {
	s := snap.Snap{Status: snap.Running, In: m.some(d, m.all[0]), Past: make([]bits.Set, len(m.all))}
	for _, h := range m.all {
		// What is around all states is never left.
		if h.past() && h.in != m.all[0] && d.Below(3) > 0 {
			was := snap.Snap{In: m.some(d, h.in), Past: s.Past}
			s.Past[h.at] = m.remember(was, 1<<h.in.at)[h.at]
		}
	}
	return s
}

// tableOf is the table of a chart, and whether it is valid.
func tableOf(text string) (table.Table, bool) {
	c, e, _ := chart.Parse(text)
	if e != api.OK {
		return table.Table{}, false
	}
	x, e := table.Make(c)
	return x, e == api.OK
}

// made is the table of a chart of which it is known that it is valid, and what its text tells; a bar between blanks parts its lines, too.
func made(t *testing.T, text string) (table.Table, *model) {
	t.Helper()
	text = strings.ReplaceAll(text, " | ", "\n")
	x, ok := tableOf(text)
	if !ok {
		t.Fatal(text)
	}
	return x, read(text)
}

// charts are so many valid charts, made by chance, of up to so many states.
func charts(seed, many, most int) []string {
	c := dice.Charts{Dice: dice.Dice(seed)}
	var l []string
	for len(l) < many {
		text := c.Text(1 + c.Below(most))
		if x, ok := tableOf(text); ok && len(x.Rows) <= most+1 {
			l = append(l, text)
		}
	}
	return l
}
