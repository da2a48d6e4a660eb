package dice

import (
	"slices"
	"strings"

	"whirligig/val"
)

// node is a state of a chart that is made by chance.
type node struct {
	word, name, start string
	in                *node
	kids              []*node
	lines             []string
}

// Charts makes charts by chance, most parts of which are right.
type Charts struct {
	Dice
	Seldom int // of so many parts one is wrong; 0: none
	all    []*node
	vars   [4][]string // the variables' names, by their kinds
}

// slips tells whether something shall be wrong.
func (c *Charts) slips() bool { return c.Seldom > 0 && c.Below(c.Seldom) == 0 }

// Text is the text of a chart of about so many states.
func (c *Charts) Text(states int) string {
	root := &node{word: "chart", name: "s0"}
	c.all, c.vars = []*node{root}, [4][]string{}
	for len(c.all) <= states {
		c.grow(root, 0)
	}
	l := []string{""}
	for i := range 3 + c.Below(4) {
		l = append(l, c.variable(i))
	}
	for _, n := range c.all {
		c.fill(n)
	}
	l[0] = "chart " + root.name + root.start
	for _, n := range root.kids {
		l = n.show(l)
	}
	return strings.Join(l, "\n")
}

// grow gives a state a child, or one of those in it, as far as there may be one.
func (c *Charts) grow(in *node, deep int) {
	if len(in.kids) > 0 && deep < 6 && c.Below(3) > 0 {
		if n := One(&c.Dice, in.kids); n.word == "state" || n.word == "parallel" {
			c.grow(n, deep+1)
			return
		}
	}
	word := c.Pick("state", "state", "state", "state", "parallel", "final", "deep", "shallow")
	if in.word == "parallel" && !c.slips() {
		word = c.Pick("state", "state", "parallel")
	}
	n := &node{word: word, in: in}
	// The chart's name may be a state's, too.
	n.name = c.Pick("s", "s", "t", "x") + string(rune('0'+len(c.all)/10)) + string(rune('0'+len(c.all)%10))
	if len(c.all) == 3 {
		n.name = "s0"
	}
	if c.slips() && c.Below(8) == 0 {
		n.name = One(&c.Dice, c.all).name
	}
	in.kids = append(in.kids, n)
	c.all = append(c.all, n)
	// What needs a child, or a state beside it, gets one most often.
	switch word {
	case "parallel":
		c.grow(n, deep+1)
	case "deep", "shallow":
		if c.Below(3) > 0 {
			c.grow(in, deep)
		}
	}
}

// variable is the line of a variable.
func (c *Charts) variable(i int) string {
	name := "v" + string(rune('0'+i))
	if c.slips() && c.Below(8) == 0 {
		name = "v0"
	}
	k := 1 + (i+c.Below(2))%3
	c.vars[k] = append(c.vars[k], name)
	return "var " + name + " " + [4]string{"", "-7", "true", "'a'"}[k]
}

// fill gives a state where it starts, acts and transitions.
func (c *Charts) fill(n *node) {
	switch n.word {
	case "deep", "shallow":
		n.start = " " + c.begin(n.in, n.word == "deep")
		return
	case "chart", "state":
		if len(n.kids) > 0 && c.Below(2) == 0 || c.slips() && c.Below(8) == 0 {
			n.start = " " + c.begin(n, false)
		}
	}
	if n.word == "chart" {
		return
	}
	for range c.Below(3) {
		n.lines = append(n.lines, c.Pick("enter ", "exit ")+c.acts())
	}
	if n.word == "final" && !(c.slips() && c.Below(8) == 0) {
		return
	}
	for range c.Below(3) {
		n.lines = append(n.lines, c.trans())
	}
}

// begin is the name of a state that is no history in one, or, if it may be farther in, within it.
func (c *Charts) begin(in *node, far bool) string {
	var l []*node
	for _, n := range in.kids {
		if n.word != "deep" && n.word != "shallow" {
			l = append(l, n)
		}
	}
	if len(l) == 0 || c.slips() {
		return One(&c.Dice, c.all).name
	}
	n := One(&c.Dice, l)
	if far && len(n.kids) > 0 && c.Below(2) == 0 {
		return c.begin(n, far)
	}
	return n.name
}

// value is the text of an expression of a kind.
func (c *Charts) value(k, deep int) string {
	switch {
	case c.slips() && c.Below(4) == 0:
		return c.Pick("none", "s1", "in(none)", "in(v0)", "-true", "1 + 'a'", "not 1")
	case c.slips() && c.Below(4) == 0:
		k = 1 + c.Below(3)
	}
	if deep > 0 && c.Below(2) == 0 {
		switch {
		case k == val.Bool && c.Below(2) == 0:
			of := 1 + c.Below(3)
			return "(" + c.value(of, deep-1) + c.Pick(" = ", " != ") + c.value(of, deep-1) + ")"
		case k == val.Bool:
			return "(" + c.value(k, deep-1) + c.Pick(" and ", " or not ") + c.value(k, deep-1) + ")"
		}
		return "(" + c.value(k, deep-1) + " + " + c.value(k, deep-1) + ")"
	}
	if len(c.vars[k]) > 0 && c.Below(2) == 0 {
		return c.Pick(c.vars[k]...)
	}
	if n := One(&c.Dice, c.all[1:]); k == val.Bool && (n.word != "deep" && n.word != "shallow" || c.slips()) {
		return "in(" + n.name + ")"
	}
	return [4]string{"", "7", "false", "'b'"}[k]
}

// acts is the text of some acts.
func (c *Charts) acts() string {
	l := make([]string, 1+c.Below(3))
	for i := range l {
		if c.Below(3) == 0 {
			l[i] = "if " + c.value(val.Bool, 2) + " : "
		}
		k := 1 + c.Below(3)
		switch names := c.vars[k]; {
		case c.Below(2) == 0 && len(names) > 0:
			l[i] += "set " + c.Pick(names...) + " " + c.value(k, 2)
		case c.slips() && c.Below(4) == 0:
			l[i] += "set none " + c.value(k, 2)
		case c.Below(2) == 0:
			l[i] += "log " + c.value(k, 2)
		default:
			l[i] += c.Pick("raise none", "send e.f 5", "cancel e")
		}
	}
	return strings.Join(l, " ; ")
}

// trans is the text of a transition.
func (c *Charts) trans() string {
	auto := c.Below(3) == 0
	test := c.Below(2) == 0
	goes := c.Below(3) > 0
	if auto && !test {
		goes = !c.slips()
	}
	s := c.Pick("on e", "on *", "on e.f")
	if auto {
		s = "auto"
	}
	if test {
		s += " if " + c.value(val.Bool, 2)
	}
	if goes {
		l := c.targets()
		s += " go " + strings.Join(l[:min(4, len(l))], " ")
	}
	s += c.Maybe(" inner")
	if c.Below(3) == 0 {
		s += " do " + c.acts()
	}
	return s
}

// targets are names of states that may be gone to together.
func (c *Charts) targets() []string {
	n := One(&c.Dice, c.all[1:])
	for range 3 {
		if n.word != "parallel" {
			n = One(&c.Dice, c.all[1:])
		}
	}
	if n.word != "parallel" || len(n.kids) == 0 || c.Below(4) == 0 {
		if c.slips() {
			return []string{n.name, c.Pick("s0", "none", n.name, One(&c.Dice, c.all).name)}
		}
		return []string{n.name}
	}
	return c.parts(n)
}

// parts are names of states in some children of a parallel one.
func (c *Charts) parts(n *node) []string {
	var l []string
	for _, k := range n.kids {
		if c.Below(4) == 0 {
			continue
		}
		for len(k.kids) > 0 && c.Below(3) > 0 {
			if k.word == "parallel" && c.Below(2) == 0 {
				break
			}
			k = One(&c.Dice, k.kids)
		}
		if k.word == "parallel" && c.Below(2) == 0 {
			l = append(l, c.parts(k)...)
			continue
		}
		l = append(l, k.name)
	}
	if c.slips() || len(l) == 0 {
		l = append(l, One(&c.Dice, n.kids).name)
	}
	if c.Below(2) == 0 {
		slices.Reverse(l)
	}
	return l
}

// show adds a state's lines to some.
func (n *node) show(l []string) []string {
	l = append(l, n.word+" "+n.name+n.start)
	if n.word == "deep" || n.word == "shallow" {
		return l
	}
	l = append(l, n.lines...)
	for _, k := range n.kids {
		l = k.show(l)
	}
	return append(l, "end")
}
