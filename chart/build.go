package chart

import (
	"strings"

	"whirligig/act"
	"whirligig/api"
	"whirligig/line"
)

// builder builds a chart, line by line.
type builder struct {
	Chart
	open  []int // the places of the states that are open, the root's first
	trans int   // how many transitions all states have together
}

// Parse is the chart that a text is; else an error, and the number of the line that is wrong, from 1 on.
func Parse(text string) (Chart, api.Errno, int) {
	var b builder
	at := 0
	for s := range strings.SplitSeq(text, "\n") {
		at++
		if at > api.MaxLines {
			return Chart{}, api.ErrMany, at
		}
		if e := b.read(s); e != api.OK {
			return Chart{}, e, at
		}
	}
	if len(b.open) != 1 {
		return Chart{}, api.ErrShort, 0
	}
	return b.Chart, api.OK, 0
}

// read adds what a line says, if it says something.
func (b *builder) read(s string) api.Errno {
	if len(s) > api.MaxLine {
		return api.ErrLong
	}
	said := strings.TrimLeft(s, " ")
	if said == "" || said[0] == '#' {
		return api.OK
	}
	n, e := line.Parse(s)
	if e != api.OK {
		return e
	}
	return b.add(n)
}

// add adds what a line says.
func (b *builder) add(n line.Line) api.Errno {
	first := len(b.States) == 0
	if first != (n.Kind == line.Chart) {
		return api.ErrParent
	}
	switch n.Kind {
	case line.Chart:
		b.Name = n.Name
		b.put(n, -1)
		return api.OK
	case line.Var:
		return b.variable(n)
	case line.State, line.Parallel, line.Final, line.Deep, line.Shallow:
		return b.state(n)
	}
	if len(b.open) == 1 {
		return api.ErrParent
	}
	return b.inside(n)
}

// variable adds a variable.
func (b *builder) variable(n line.Line) api.Errno {
	switch {
	case len(b.States) > 1:
		return api.ErrParent
	case len(b.Vars) == api.MaxVars:
		return api.ErrMany
	}
	b.Vars = append(b.Vars, Var{Name: n.Name, V: n.V})
	return api.OK
}

// state adds a state to the one that is open.
func (b *builder) state(n line.Line) api.Errno {
	parent := b.here()
	switch {
	case b.States[parent].Kind == line.Final:
		return api.ErrParent
	case len(b.States) > api.MaxStates:
		return api.ErrMany
	case len(b.open) > api.MaxDepth:
		return api.ErrDeep
	}
	b.put(n, parent)
	return api.OK
}

// put puts a state behind the others, and opens it, if it is no history.
func (b *builder) put(n line.Line, parent int) {
	s := State{Name: n.Name, Kind: n.Kind, Parent: parent, Start: n.Start}
	if !s.Past() {
		b.open = append(b.open, len(b.States))
	}
	b.States = append(b.States, s)
}

// here is the place of the state that is open.
func (b *builder) here() int { return b.open[len(b.open)-1] }

// inside adds to the state that is open what stands in no root, or closes it.
func (b *builder) inside(n line.Line) api.Errno {
	s := &b.States[b.here()]
	switch n.Kind {
	case line.Enter:
		return further(&s.Enter, n.Do)
	case line.Exit:
		return further(&s.Exit, n.Do)
	case line.End:
		b.open = b.open[:len(b.open)-1]
		return api.OK
	}
	if b.trans == api.MaxTrans {
		return api.ErrMany
	}
	b.trans++
	s.Trans = append(s.Trans, n.Trans)
	return api.OK
}

// further adds a list of acts to those that are there.
func further(lists *[][]act.Act, l []act.Act) api.Errno {
	if len(*lists) == api.MaxActs {
		return api.ErrMany
	}
	*lists = append(*lists, l)
	return api.OK
}
