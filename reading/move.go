package reading

import (
	"slices"

	"whirligig/bits"
	"whirligig/line"
	"whirligig/snap"
)

// Targets are what some states, or histories, lead to.
func (c *Chart) Targets(s snap.Snap, l []*State) Some {
	to := Some{}
	for _, n := range l {
		if !n.IsPast() {
			to[n] = true
			continue
		}
		was := c.Sorted(c.Of(s.Past[n.At]))
		if len(was) == 0 {
			was = []*State{c.First(n)}
		}
		for _, k := range was {
			to[k] = true
		}
	}
	return to
}

// Domain is the domain of a transition; nil: it has none.
func (c *Chart) Domain(s snap.Snap, w *Way) *State {
	to := c.Sorted(c.Targets(s, w.To))
	if len(to) == 0 {
		return nil
	}
	to = append(to, w.To...)
	holds := func(o *State) bool {
		return o.Compound() && !slices.ContainsFunc(to, func(n *State) bool { return !n.Within(o) })
	}
	if w.Inner && holds(w.Source) {
		return w.Source
	}
	o := w.Source.In
	for !holds(o) {
		o = o.In
	}
	return o
}

// Exits are what some transitions leave.
func (c *Chart) Exits(s snap.Snap, ways ...*Way) bits.Set {
	l := Some{}
	for _, w := range ways {
		if o := c.Domain(s, w); o != nil {
			for n := range c.Of(s.In) {
				l[n] = l[n] || n.Within(o)
			}
		}
	}
	return l.Set()
}

// Remember is what all histories remember, when some states are left.
func (c *Chart) Remember(s snap.Snap, exits bits.Set) []bits.Set {
	l := slices.Clone(s.Past)
	for _, h := range c.All {
		if !h.IsPast() || !c.Of(exits)[h.In] {
			continue
		}
		was := Some{}
		for n := range c.Of(s.In) {
			was[n] = h.Kind == line.Deep && n.Within(h.In) && n.Atomic() || h.Kind == line.Shallow && n.In == h.In
		}
		l[h.At] = was.Set()
	}
	return l
}

// entry gathers what is entered.
type entry struct {
	*Chart
	s  snap.Snap
	to Some
}

// Enters are what some transitions enter.
func (c *Chart) Enters(s snap.Snap, ways ...*Way) bits.Set {
	e := entry{c, s, Some{}}
	for _, w := range ways {
		o := c.Domain(s, w)
		if o == nil {
			continue
		}
		for _, n := range w.To {
			e.descend(n)
		}
		for _, n := range c.Sorted(c.Targets(s, w.To)) {
			e.ascend(n, o)
		}
	}
	return e.to.Set()
}

// Begins are what a chart enters at first.
func (c *Chart) Begins() bits.Set {
	e := entry{c, snap.Snap{}, Some{}}
	e.descend(c.First(c.All[0]))
	return e.to.Set()
}

// descend adds a state, and what is entered in it.
func (e entry) descend(n *State) {
	if n.IsPast() {
		l := e.Sorted(e.Targets(e.s, []*State{n}))
		for _, k := range l {
			e.descend(k)
		}
		for _, k := range l {
			e.ascend(k, n.In)
		}
		return
	}
	e.to[n] = true
	if n.Compound() {
		e.descend(e.First(n))
	} else {
		e.spread(n)
	}
}

// ascend adds what a state lies within, up to another one.
func (e entry) ascend(n, to *State) {
	for o := n.In; o != to; o = o.In {
		e.to[o] = true
		if o.Kind == line.Parallel {
			e.spread(o)
		}
	}
}

// spread adds the children of a state in which nothing is entered yet.
func (e entry) spread(n *State) {
	for _, k := range n.States() {
		some := false
		for o, is := range e.to {
			some = some || is && o.Within(k)
		}
		if !some {
			e.descend(k)
		}
	}
}
