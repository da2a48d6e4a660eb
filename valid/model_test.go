package valid_test

import (
	"slices"
	"strings"

	"whirligig/act"
	"whirligig/api"
	"whirligig/chart"
	"whirligig/dice"
	"whirligig/expr"
	"whirligig/kind"
	"whirligig/line"
	"whirligig/val"
)

// fault is something that is wrong with a chart: the number of what is looked at, of its rule, of what in it, and of which part of that; and what is told of it.
type fault struct {
	at   [4]int
	e    api.Errno
	name string
}

// court gathers all that is wrong with a chart, in no order.
type court struct {
	c      chart.Chart
	first  map[string]int // the places of the first states of all names, beside the root
	paths  [][]int        // what each state lies within, the root first
	kinds  map[string]int // the first variables' kinds
	scope  kind.Scope
	faults []fault
}

// expected is what Check should tell.
func expected(c chart.Chart) (api.Errno, string) {
	if len(c.States) == 0 {
		return api.ErrChart, ""
	}
	w := court{c: c, first: map[string]int{}, kinds: map[string]int{}, paths: make([][]int, len(c.States))}
	for i, s := range slices.Backward(c.States) {
		if i > 0 {
			w.first[s.Name] = i
		}
		if i > 0 && !past(s) {
			w.scope.States = append(w.scope.States, s.Name)
		}
	}
	for i, v := range slices.Backward(c.Vars) {
		w.kinds[v.Name] = v.V.Kind
		w.scope.Vars = slices.Insert(w.scope.Vars, 0, kind.Var{Name: v.Name, Kind: v.V.Kind})
		for k := range i {
			if c.Vars[k].Name == v.Name {
				w.faults = append(w.faults, fault{[4]int{-1, i}, api.ErrTwice, v.Name})
			}
		}
	}
	for i, s := range c.States {
		if i > 0 {
			w.paths[i] = append(slices.Clone(w.paths[s.Parent]), s.Parent)
		}
	}
	for i := range c.States {
		w.state(i)
	}
	if len(w.faults) == 0 {
		return api.OK, ""
	}
	least := slices.MinFunc(w.faults, func(a, b fault) int { return slices.Compare(a.at[:], b.at[:]) })
	return least.e, least.name
}

func past(s chart.State) bool { return s.Kind == line.Deep || s.Kind == line.Shallow }

// need says that something must hold.
func (w *court) need(ok bool, e api.Errno, at ...int) {
	if !ok {
		f := fault{e: e, name: w.c.States[at[0]].Name}
		copy(f.at[:], at)
		w.faults = append(w.faults, f)
	}
}

// state looks at all rules of a state, whatever comes of one.
func (w *court) state(i int) {
	s := w.c.States[i]
	if i > 0 {
		w.need(w.first[s.Name] == i, api.ErrTwice, i, 1)
	}
	var children, lasting []int
	for k, kid := range w.c.States {
		if k > 0 && kid.Parent == i {
			children = append(children, k)
			if !past(kid) {
				lasting = append(lasting, k)
			}
		}
	}
	begin, known := w.first[s.Start]
	if past(s) {
		ok := known && !past(w.c.States[begin])
		if ok && s.Kind == line.Shallow {
			ok = w.paths[begin][len(w.paths[begin])-1] == s.Parent
		}
		w.need(ok && slices.Contains(w.paths[begin], s.Parent), api.ErrHistory, i, 2)
		return
	}
	w.need(s.Kind != line.Final || len(children) == 0 && len(s.Trans) == 0, api.ErrKids, i, 3)
	w.need(i != 0 && s.Kind != line.Parallel && len(children) == 0 || len(lasting) > 0, api.ErrKids, i, 3)
	for _, k := range children {
		kid := w.c.States[k].Kind
		w.need(s.Kind != line.Parallel || kid == line.State || kid == line.Parallel, api.ErrKids, i, 3)
	}
	w.need(s.Start == "" || known && slices.Contains(lasting, begin), api.ErrStart, i, 4)
	part := 0
	for _, l := range append(slices.Clone(s.Enter), s.Exit...) {
		part = w.acts(l, part, i, 5, 0)
	}
	for k, t := range s.Trans {
		w.trans(t, i, 6, k)
	}
}

// acts looks at acts, of which the first one's first part has a number; it answers the number behind the last one's.
func (w *court) acts(l []act.Act, part int, at ...int) int {
	for _, a := range l {
		if len(a.If) > 0 {
			w.kind(a.If, val.Bool, append(at, part)...)
		}
		switch a.Kind {
		case act.Log:
			w.kind(a.X, 0, append(at, part+1)...)
		case act.Set:
			w.kind(a.X, 0, append(at, part+1)...)
			k, ok := w.kinds[a.Name]
			w.need(ok, api.ErrName, append(at, part+2)...)
			w.kind(a.X, k, append(at, part+3)...)
		}
		part += 4
	}
	return part
}

// kind says that an expression must have a kind; of 0 any.
func (w *court) kind(x expr.Expr, k int, at ...int) {
	is, e := kind.Of(x, w.scope)
	if e == api.OK && k != 0 && is != k {
		e = api.ErrType
	}
	w.need(e == api.OK, e, at...)
}

// trans looks at a transition.
func (w *court) trans(t line.Trans, at ...int) {
	w.need(t.Event != "" || len(t.If)+len(t.Goes) > 0, api.ErrForm, append(at, 0)...)
	if len(t.If) > 0 {
		w.kind(t.If, val.Bool, append(at, 1)...)
	}
	for i, name := range t.Goes {
		to, ok := w.first[name]
		w.need(ok, api.ErrTarget, append(at, 2)...)
		for _, other := range t.Goes[:i] {
			if from, both := w.first[other]; ok && both {
				w.need(w.together(to, from), api.ErrTarget, append(at, 2)...)
			}
		}
	}
	w.acts(t.Do, 3, at...)
}

// together tells whether two states may be gone to together.
func (w *court) together(a, b int) bool {
	if a == b || slices.Contains(w.paths[a], b) || slices.Contains(w.paths[b], a) {
		return false
	}
	both := 0
	for both < min(len(w.paths[a]), len(w.paths[b])) && w.paths[a][both] == w.paths[b][both] {
		both++
	}
	return w.c.States[w.paths[a][both-1]].Kind == line.Parallel
}

// node is a state of a chart that is made by chance.
type node struct {
	word, name, start string
	in                *node
	kids              []*node
	lines             []string
}

// chance makes charts by chance, most parts of which are right.
type chance struct {
	dice.Dice
	seldom int // of so many parts one is wrong
	all    []*node
	vars   [4][]string // the variables' names, by their kinds
}

// slips tells whether something shall be wrong.
func (c *chance) slips() bool { return c.Below(c.seldom) == 0 }

// chart is the text of a chart of so many states.
func (c *chance) chart(states int) string {
	root := &node{word: "chart", name: "s0"}
	c.all, c.vars = []*node{root}, [4][]string{}
	for len(c.all) <= states {
		c.grow(root, 0)
	}
	l := []string{""}
	for i := range 3 + c.Below(4) {
		l = append(l, c.variable(i))
	}
	for _, n := range c.all {
		c.fill(n)
	}
	l[0] = "chart " + root.name + root.start
	for _, n := range root.kids {
		l = n.show(l)
	}
	return strings.Join(l, "\n")
}

// grow gives a state a child, or one of those in it, as far as there may be one.
func (c *chance) grow(in *node, deep int) {
	if len(in.kids) > 0 && deep < 6 && c.Below(3) > 0 {
		if n := dice.One(&c.Dice, in.kids); n.word == "state" || n.word == "parallel" {
			c.grow(n, deep+1)
			return
		}
	}
	word := c.Pick("state", "state", "state", "state", "parallel", "final", "deep", "shallow")
	if in.word == "parallel" && !c.slips() {
		word = c.Pick("state", "state", "parallel")
	}
	n := &node{word: word, in: in}
	// The chart's name may be a state's, too.
	n.name = c.Pick("s", "s", "t", "x") + string(rune('0'+len(c.all)/10)) + string(rune('0'+len(c.all)%10))
	if len(c.all) == 3 {
		n.name = "s0"
	}
	if c.slips() && c.Below(8) == 0 {
		n.name = dice.One(&c.Dice, c.all).name
	}
	in.kids = append(in.kids, n)
	c.all = append(c.all, n)
	// What needs a child, or a state beside it, gets one most often.
	switch word {
	case "parallel":
		c.grow(n, deep+1)
	case "deep", "shallow":
		if c.Below(3) > 0 {
			c.grow(in, deep)
		}
	}
}

// variable is the line of a variable.
func (c *chance) variable(i int) string {
	name := "v" + string(rune('0'+i))
	if c.slips() && c.Below(8) == 0 {
		name = "v0"
	}
	k := 1 + (i+c.Below(2))%3
	c.vars[k] = append(c.vars[k], name)
	return "var " + name + " " + [4]string{"", "-7", "true", "'a'"}[k]
}

// fill gives a state where it starts, acts and transitions.
func (c *chance) fill(n *node) {
	switch n.word {
	case "deep", "shallow":
		n.start = " " + c.begin(n.in, n.word == "deep")
		return
	case "chart", "state":
		if len(n.kids) > 0 && c.Below(2) == 0 || c.slips() && c.Below(8) == 0 {
			n.start = " " + c.begin(n, false)
		}
	}
	if n.word == "chart" {
		return
	}
	for range c.Below(3) {
		n.lines = append(n.lines, c.Pick("enter ", "exit ")+c.acts())
	}
	if n.word == "final" && !(c.slips() && c.Below(8) == 0) {
		return
	}
	for range c.Below(3) {
		n.lines = append(n.lines, c.trans())
	}
}

// begin is the name of a state that is no history in one, or, if it may be farther in, within it.
func (c *chance) begin(in *node, far bool) string {
	var l []*node
	for _, n := range in.kids {
		if n.word != "deep" && n.word != "shallow" {
			l = append(l, n)
		}
	}
	if len(l) == 0 || c.slips() {
		return dice.One(&c.Dice, c.all).name
	}
	n := dice.One(&c.Dice, l)
	if far && len(n.kids) > 0 && c.Below(2) == 0 {
		return c.begin(n, far)
	}
	return n.name
}

// value is the text of an expression of a kind.
func (c *chance) value(k, deep int) string {
	switch {
	case c.slips() && c.Below(4) == 0:
		return c.Pick("none", "s1", "in(none)", "in(v0)", "-true", "1 + 'a'", "not 1")
	case c.slips() && c.Below(4) == 0:
		k = 1 + c.Below(3)
	}
	if deep > 0 && c.Below(2) == 0 {
		switch {
		case k == val.Bool && c.Below(2) == 0:
			of := 1 + c.Below(3)
			return "(" + c.value(of, deep-1) + c.Pick(" = ", " != ") + c.value(of, deep-1) + ")"
		case k == val.Bool:
			return "(" + c.value(k, deep-1) + c.Pick(" and ", " or not ") + c.value(k, deep-1) + ")"
		}
		return "(" + c.value(k, deep-1) + " + " + c.value(k, deep-1) + ")"
	}
	if len(c.vars[k]) > 0 && c.Below(2) == 0 {
		return c.Pick(c.vars[k]...)
	}
	if n := dice.One(&c.Dice, c.all[1:]); k == val.Bool && (n.word != "deep" && n.word != "shallow" || c.slips()) {
		return "in(" + n.name + ")"
	}
	return [4]string{"", "7", "false", "'b'"}[k]
}

// acts is the text of some acts.
func (c *chance) acts() string {
	l := make([]string, 1+c.Below(3))
	for i := range l {
		if c.Below(3) == 0 {
			l[i] = "if " + c.value(val.Bool, 2) + " : "
		}
		k := 1 + c.Below(3)
		switch names := c.vars[k]; {
		case c.Below(2) == 0 && len(names) > 0:
			l[i] += "set " + c.Pick(names...) + " " + c.value(k, 2)
		case c.slips() && c.Below(4) == 0:
			l[i] += "set none " + c.value(k, 2)
		case c.Below(2) == 0:
			l[i] += "log " + c.value(k, 2)
		default:
			l[i] += c.Pick("raise none", "send e.f 5", "cancel e")
		}
	}
	return strings.Join(l, " ; ")
}

// trans is the text of a transition.
func (c *chance) trans() string {
	auto := c.Below(3) == 0
	test := c.Below(2) == 0
	goes := c.Below(3) > 0
	if auto && !test {
		goes = !c.slips()
	}
	s := c.Pick("on e", "on *", "on e.f")
	if auto {
		s = "auto"
	}
	if test {
		s += " if " + c.value(val.Bool, 2)
	}
	if goes {
		l := c.targets()
		s += " go " + strings.Join(l[:min(4, len(l))], " ")
	}
	s += c.Maybe(" inner")
	if c.Below(3) == 0 {
		s += " do " + c.acts()
	}
	return s
}

// targets are names of states that may be gone to together.
func (c *chance) targets() []string {
	n := dice.One(&c.Dice, c.all[1:])
	for range 3 {
		if n.word != "parallel" {
			n = dice.One(&c.Dice, c.all[1:])
		}
	}
	if n.word != "parallel" || len(n.kids) == 0 || c.Below(4) == 0 {
		if c.slips() {
			return []string{n.name, c.Pick("s0", "none", n.name, dice.One(&c.Dice, c.all).name)}
		}
		return []string{n.name}
	}
	return c.parts(n)
}

// parts are names of states in some children of a parallel one.
func (c *chance) parts(n *node) []string {
	var l []string
	for _, k := range n.kids {
		if c.Below(4) == 0 {
			continue
		}
		for len(k.kids) > 0 && c.Below(3) > 0 {
			if k.word == "parallel" && c.Below(2) == 0 {
				break
			}
			k = dice.One(&c.Dice, k.kids)
		}
		if k.word == "parallel" && c.Below(2) == 0 {
			l = append(l, c.parts(k)...)
			continue
		}
		l = append(l, k.name)
	}
	if c.slips() || len(l) == 0 {
		l = append(l, dice.One(&c.Dice, n.kids).name)
	}
	if c.Below(2) == 0 {
		slices.Reverse(l)
	}
	return l
}

// show adds a state's lines to some.
func (n *node) show(l []string) []string {
	l = append(l, n.word+" "+n.name+n.start)
	if n.word == "deep" || n.word == "shallow" {
		return l
	}
	l = append(l, n.lines...)
	for _, k := range n.kids {
		l = k.show(l)
	}
	return append(l, "end")
}

// ends is a text with as many lines end behind it as states are open.
func ends(text string) string {
	open := 0
	for s := range strings.SplitSeq(text, "\n") {
		switch word, _, _ := strings.Cut(s, " "); word {
		case "state", "parallel", "final":
			open++
		case "end":
			open--
		}
	}
	return text + strings.Repeat("\nend", max(0, open))
}
