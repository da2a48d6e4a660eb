// Package reading is a second reading of charts, for the tests of the layers that move them: what the SCXML algorithm does, by its own words, from a chart's text. No layer calls it.
package reading

import (
	"slices"
	"strings"

	"whirligig/act"
	"whirligig/api"
	"whirligig/bits"
	"whirligig/line"
)

// State is a state of a chart, as its text tells it; the root is one, too.
type State struct {
	line.Line
	At          int // how many states stand ahead of it
	In          *State
	Kids        []*State // its children, histories too
	Ways        []*Way
	Enter, Exit [][]act.Act
}

// Way is a transition, as its text tells it.
type Way struct {
	line.Trans
	At     int // how many transitions stand ahead of it
	Source *State
	To     []*State
}

// Chart is a chart, as its text tells it.
type Chart struct {
	All   []*State
	Ways  []*Way
	Vars  []line.Line
	named map[string]*State // those beside the root
}

// Read reads the text of a valid chart.
func Read(text string) *Chart {
	c := &Chart{named: map[string]*State{}}
	var open []*State
	for s := range strings.SplitSeq(text, "\n") {
		n, e := line.Parse(s)
		switch {
		case e != api.OK: // It says nothing.
		case n.Kind == line.Var:
			c.Vars = append(c.Vars, n)
		case n.Kind == line.End:
			open = open[:len(open)-1]
		case n.Kind == line.On || n.Kind == line.Auto:
			in := open[len(open)-1]
			in.Ways = append(in.Ways, &Way{Trans: n.Trans, Source: in})
		case n.Kind == line.Enter:
			in := open[len(open)-1]
			in.Enter = append(in.Enter, n.Do)
		case n.Kind == line.Exit:
			in := open[len(open)-1]
			in.Exit = append(in.Exit, n.Do)
		case n.Kind <= line.Shallow:
			if one := c.add(n, open); !one.IsPast() {
				open = append(open, one)
			}
		}
	}
	c.lead()
	return c
}

// add adds a state in the last one that is open.
func (c *Chart) add(n line.Line, open []*State) *State {
	one := &State{Line: n, At: len(c.All)}
	c.All = append(c.All, one)
	if len(open) > 0 {
		one.In = open[len(open)-1]
		one.In.Kids = append(one.In.Kids, one)
		c.named[n.Name] = one
	}
	return one
}

// lead numbers all transitions, state by state, and finds what they lead to.
func (c *Chart) lead() {
	for _, n := range c.All {
		for _, w := range n.Ways {
			w.At = len(c.Ways)
			c.Ways = append(c.Ways, w)
			for _, name := range w.Goes {
				w.To = append(w.To, c.named[name])
			}
		}
	}
}

// IsPast tells whether a state is a history.
func (n *State) IsPast() bool { return n.Kind == line.Deep || n.Kind == line.Shallow }

// States are a state's children that are no histories.
func (n *State) States() []*State { return slices.DeleteFunc(slices.Clone(n.Kids), (*State).IsPast) }

// Compound tells whether just one of a state's children is always active with it.
func (n *State) Compound() bool { return n.Kind != line.Parallel && len(n.States()) > 0 }

// Atomic tells whether nothing can be active in a state.
func (n *State) Atomic() bool { return !n.IsPast() && len(n.States()) == 0 }

// Within tells whether a state lies within another one.
func (n *State) Within(o *State) bool { return n.In != nil && (n.In == o || n.In.Within(o)) }

// First is the state that a compound one, or a history, begins with.
func (c *Chart) First(n *State) *State {
	if n.Start != "" {
		return c.named[n.Start]
	}
	return n.States()[0]
}

// Some are some states: each is there, or not.
type Some map[*State]bool

// Set is the set of the places of some states.
func (l Some) Set() bits.Set {
	var s bits.Set
	for n, is := range l {
		if is {
			s |= 1 << n.At
		}
	}
	return s
}

// Of are the states of a set.
func (c *Chart) Of(s bits.Set) Some {
	l := Some{}
	for _, n := range c.All {
		if uint64(s)>>n.At&1 == 1 {
			l[n] = true
		}
	}
	return l
}

// Sorted are some states as they stand in the chart.
func (c *Chart) Sorted(l Some) []*State {
	return slices.DeleteFunc(slices.Clone(c.All), func(n *State) bool { return !l[n] })
}
