package valid_test

import (
	"slices"
	"strings"

	"whirligig/act"
	"whirligig/api"
	"whirligig/chart"
	"whirligig/expr"
	"whirligig/kind"
	"whirligig/line"
	"whirligig/val"
)

// fault is something that is wrong with a chart: the number of what is looked at, of its rule, of what in it, and of which part of that; and what is told of it.
type fault struct {
	at   [4]int
	e    api.Errno
	name string
}

// court gathers all that is wrong with a chart, in no order.
type court struct {
	c      chart.Chart
	first  map[string]int // the places of the first states of all names, beside the root
	paths  [][]int        // what each state lies within, the root first
	kinds  map[string]int // the first variables' kinds
	scope  kind.Scope
	faults []fault
}

// expected is what Check should tell.
func expected(c chart.Chart) (api.Errno, string) {
	if len(c.States) == 0 {
		return api.ErrChart, ""
	}
	w := court{c: c, first: map[string]int{}, kinds: map[string]int{}, paths: make([][]int, len(c.States))}
	for i, s := range slices.Backward(c.States) {
		if i > 0 {
			w.first[s.Name] = i
		}
		if i > 0 && !past(s) {
			w.scope.States = append(w.scope.States, s.Name)
		}
	}
	for i, v := range slices.Backward(c.Vars) {
		w.kinds[v.Name] = v.V.Kind
		w.scope.Vars = slices.Insert(w.scope.Vars, 0, kind.Var{Name: v.Name, Kind: v.V.Kind})
		for k := range i {
			if c.Vars[k].Name == v.Name {
				w.faults = append(w.faults, fault{[4]int{-1, i}, api.ErrTwice, v.Name})
			}
		}
	}
	for i, s := range c.States {
		if i > 0 {
			w.paths[i] = append(slices.Clone(w.paths[s.Parent]), s.Parent)
		}
	}
	for i := range c.States {
		w.state(i)
	}
	if len(w.faults) == 0 {
		return api.OK, ""
	}
	least := slices.MinFunc(w.faults, func(a, b fault) int { return slices.Compare(a.at[:], b.at[:]) })
	return least.e, least.name
}

func past(s chart.State) bool { return s.Kind == line.Deep || s.Kind == line.Shallow }

// need says that something must hold.
func (w *court) need(ok bool, e api.Errno, at ...int) {
	if !ok {
		f := fault{e: e, name: w.c.States[at[0]].Name}
		copy(f.at[:], at)
		w.faults = append(w.faults, f)
	}
}

// state looks at all rules of a state, whatever comes of one.
func (w *court) state(i int) {
	s := w.c.States[i]
	if i > 0 {
		w.need(w.first[s.Name] == i, api.ErrTwice, i, 1)
	}
	var children, lasting []int
	for k, kid := range w.c.States {
		if k > 0 && kid.Parent == i {
			children = append(children, k)
			if !past(kid) {
				lasting = append(lasting, k)
			}
		}
	}
	begin, known := w.first[s.Start]
	if past(s) {
		ok := known && !past(w.c.States[begin])
		if ok && s.Kind == line.Shallow {
			ok = w.paths[begin][len(w.paths[begin])-1] == s.Parent
		}
		w.need(ok && slices.Contains(w.paths[begin], s.Parent), api.ErrHistory, i, 2)
		return
	}
	w.need(s.Kind != line.Final || len(children) == 0 && len(s.Trans) == 0, api.ErrKids, i, 3)
	w.need(i != 0 && s.Kind != line.Parallel && len(children) == 0 || len(lasting) > 0, api.ErrKids, i, 3)
	for _, k := range children {
		kid := w.c.States[k].Kind
		w.need(s.Kind != line.Parallel || kid == line.State || kid == line.Parallel, api.ErrKids, i, 3)
	}
	w.need(s.Start == "" || known && slices.Contains(lasting, begin), api.ErrStart, i, 4)
	part := 0
	for _, l := range append(slices.Clone(s.Enter), s.Exit...) {
		part = w.acts(l, part, i, 5, 0)
	}
	for k, t := range s.Trans {
		w.trans(t, i, 6, k)
	}
}

// acts looks at acts, of which the first one's first part has a number; it answers the number behind the last one's.
func (w *court) acts(l []act.Act, part int, at ...int) int {
	for _, a := range l {
		if len(a.If) > 0 {
			w.kind(a.If, val.Bool, append(at, part)...)
		}
		switch a.Kind {
		case act.Log:
			w.kind(a.X, 0, append(at, part+1)...)
		case act.Set:
			w.kind(a.X, 0, append(at, part+1)...)
			k, ok := w.kinds[a.Name]
			w.need(ok, api.ErrName, append(at, part+2)...)
			w.kind(a.X, k, append(at, part+3)...)
		}
		part += 4
	}
	return part
}

// kind says that an expression must have a kind; of 0 any.
func (w *court) kind(x expr.Expr, k int, at ...int) {
	is, e := kind.Of(x, w.scope)
	if e == api.OK && k != 0 && is != k {
		e = api.ErrType
	}
	w.need(e == api.OK, e, at...)
}

// trans looks at a transition.
func (w *court) trans(t line.Trans, at ...int) {
	w.need(t.Event != "" || len(t.If)+len(t.Goes) > 0, api.ErrForm, append(at, 0)...)
	if len(t.If) > 0 {
		w.kind(t.If, val.Bool, append(at, 1)...)
	}
	for i, name := range t.Goes {
		to, ok := w.first[name]
		w.need(ok, api.ErrTarget, append(at, 2)...)
		for _, other := range t.Goes[:i] {
			if from, both := w.first[other]; ok && both {
				w.need(w.together(to, from), api.ErrTarget, append(at, 2)...)
			}
		}
	}
	w.acts(t.Do, 3, at...)
}

// together tells whether two states may be gone to together.
func (w *court) together(a, b int) bool {
	if a == b || slices.Contains(w.paths[a], b) || slices.Contains(w.paths[b], a) {
		return false
	}
	both := 0
	for both < min(len(w.paths[a]), len(w.paths[b])) && w.paths[a][both] == w.paths[b][both] {
		both++
	}
	return w.c.States[w.paths[a][both-1]].Kind == line.Parallel
}

// ends is a text with as many lines end behind it as states are open.
func ends(text string) string {
	open := 0
	for s := range strings.SplitSeq(text, "\n") {
		switch word, _, _ := strings.Cut(s, " "); word {
		case "state", "parallel", "final":
			open++
		case "end":
			open--
		}
	}
	return text + strings.Repeat("\nend", max(0, open))
}
