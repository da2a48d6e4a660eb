package chart_test

import (
	"reflect"
	"slices"
	"strings"

	"whirligig/act"
	"whirligig/api"
	"whirligig/chart"
	"whirligig/dice"
	"whirligig/line"
)

// said is a line that says something, as layer 7 reads it.
type said = line.Line

// makes tells whether a line makes a state, beside the root.
func makes(n said) bool { return n.Kind >= line.State && n.Kind <= line.Shallow }

// opens tells whether a line opens what it makes.
func opens(n said) bool { return n.Kind >= line.State && n.Kind <= line.Final }

// opened are those lines, of some that may stand one behind the other, whose states are open behind them, the root's first.
func opened(l []said) []int {
	var open []int
	for at := len(l) - 1; at >= 0; at-- {
		ends, begins := 0, 0
		for _, n := range l[at+1:] {
			if n.Kind == line.End {
				ends++
			} else if opens(n) {
				begins++
			}
			// What is closed as often as others were opened closes it.
			if ends > begins {
				break
			}
		}
		if ends <= begins && (opens(l[at]) || l[at].Kind == line.Chart) {
			open = append([]int{at}, open...)
		}
	}
	return open
}

// count is how many lines something holds of.
func count(l []said, is func(said) bool) int {
	n := 0
	for _, x := range l {
		if is(x) {
			n++
		}
	}
	return n
}

// kinds tells whether a line is of some kinds.
func kinds(l ...int) func(said) bool {
	return func(n said) bool { return slices.Contains(l, n.Kind) }
}

// lists is how many lines of a kind stand in the state that is open.
func lists(l []said, open, kind int) int {
	n := 0
	for at := open + 1; at < len(l); at++ {
		if l[at].Kind == kind && last(opened(l[:at])) == open {
			n++
		}
	}
	return n
}

func last(l []int) int { return l[len(l)-1] }

// fits tells what is wrong with a line behind others.
func fits(l []said, n said) api.Errno {
	if len(l) == 0 || n.Kind == line.Chart {
		if len(l) == 0 && n.Kind == line.Chart {
			return api.OK
		}
		return api.ErrParent
	}
	open := opened(l)
	switch in := l[last(open)].Kind; {
	case n.Kind == line.Var && count(l, makes) > 0,
		makes(n) && in == line.Final,
		!makes(n) && n.Kind != line.Var && in == line.Chart:
		return api.ErrParent
	}
	switch {
	case n.Kind == line.Var && count(l, kinds(line.Var)) == 16,
		makes(n) && count(l, makes) == 48,
		kinds(line.On, line.Auto)(n) && count(l, kinds(line.On, line.Auto)) == 96,
		kinds(line.Enter, line.Exit)(n) && lists(l, last(open), n.Kind) == 8:
		return api.ErrMany
	case makes(n) && len(open)-1 == 8:
		return api.ErrDeep
	}
	return api.OK
}

// expected is what Parse should tell.
func expected(text string) (chart.Chart, api.Errno, int) {
	var l []said
	for at, s := range strings.Split(text, "\n") {
		e := api.OK
		var n said
		switch {
		case at == 400:
			e = api.ErrMany
		case len(s) > 400:
			e = api.ErrLong
		case strings.Trim(s, " ") == "" || strings.HasPrefix(strings.Trim(s, " "), "#"):
			continue
		default:
			n, e = line.Parse(s)
		}
		if e == api.OK {
			e = fits(l, n)
		}
		if e != api.OK {
			return chart.Chart{}, e, at + 1
		}
		l = append(l, n)
	}
	if len(l) == 0 || len(opened(l)) != 1 {
		return chart.Chart{}, api.ErrShort, 0
	}
	return built(l), api.OK, 0
}

// built is the chart that lines are which may stand one behind the other.
func built(l []said) chart.Chart {
	c := chart.Chart{Name: l[0].Name}
	place := map[int]int{}
	for at, n := range l {
		if n.Kind == line.Var {
			c.Vars = append(c.Vars, chart.Var{Name: n.Name, V: n.V})
			continue
		}
		in := -1
		if at > 0 {
			in = place[last(opened(l[:at]))]
		}
		switch n.Kind {
		case line.Enter:
			c.States[in].Enter = append(c.States[in].Enter, n.Do)
		case line.Exit:
			c.States[in].Exit = append(c.States[in].Exit, n.Do)
		case line.On, line.Auto:
			c.States[in].Trans = append(c.States[in].Trans, n.Trans)
		case line.End:
		default:
			place[at] = len(c.States)
			c.States = append(c.States, chart.State{Name: n.Name, Kind: n.Kind, Parent: in, Start: n.Start})
		}
	}
	return c
}

// printed is how a chart that was parsed should be shown.
func printed(c chart.Chart) string {
	l := []string{"chart " + c.Name + before(c.States[0].Start)}
	for _, v := range c.Vars {
		l = append(l, "var "+v.Name+" "+v.V.Show())
	}
	for _, k := range children(c, 0) {
		l = append(l, tree(c, k)...)
	}
	return strings.Join(l, "\n") + "\n"
}

// before is a text with a blank ahead; of none it is none.
func before(s string) string {
	if s == "" {
		return ""
	}
	return " " + s
}

// children are the places of the states whose Parent is a place.
func children(c chart.Chart, i int) []int {
	var l []int
	for k := range c.States {
		if c.States[k].Parent == i {
			l = append(l, k)
		}
	}
	return l
}

// tree is how a state, with all in it, should be shown, line by line.
func tree(c chart.Chart, i int) []string {
	s := c.States[i]
	word := [...]string{line.State: "state", line.Parallel: "parallel", line.Final: "final", line.Deep: "deep", line.Shallow: "shallow"}[s.Kind]
	l := []string{word + " " + s.Name + before(s.Start)}
	if word == "deep" || word == "shallow" {
		return l
	}
	var in []string
	for _, a := range s.Enter {
		in = append(in, "enter "+act.Show(a...))
	}
	for _, a := range s.Exit {
		in = append(in, "exit "+act.Show(a...))
	}
	for _, t := range s.Trans {
		in = append(in, t.Show())
	}
	for _, k := range children(c, i) {
		in = append(in, tree(c, k)...)
	}
	for _, s := range in {
		l = append(l, "  "+s)
	}
	return append(l, "end")
}

// same tells whether two charts are one, with nil and empty lists one.
func same(a, b chart.Chart) bool { return alike(reflect.ValueOf(a), reflect.ValueOf(b)) }

// alike tells whether two values are one, with nil and empty lists one.
func alike(a, b reflect.Value) bool {
	switch a.Kind() {
	case reflect.Struct:
		for i := range a.NumField() {
			if !alike(a.Field(i), b.Field(i)) {
				return false
			}
		}
		return true
	case reflect.Slice:
		if a.Len() != b.Len() {
			return false
		}
		for i := range a.Len() {
			if !alike(a.Index(i), b.Index(i)) {
				return false
			}
		}
		return true
	}
	return a.Equal(b)
}

// chance makes texts, and what they stand for, by chance.
type chance struct{ dice.Dice }

func (c *chance) name() string { return c.Pick("a", "b_1", "iff", "cc", times(16, "n")) }

// acts is the text of a few acts.
func (c *chance) acts() string {
	l := make([]string, 1+c.Below(4))
	for i := range l {
		l[i] = c.Maybe("if x>(1):") + c.Pick("set x ((x+1)*2)", "raise e.f", "send e 5", "cancel e", "log 'a b'")
	}
	return strings.Join(l, c.Pick(";", " ; "))
}

// trans is the text of a transition.
func (c *chance) trans() string {
	s := c.Pick("auto", "on *", "on e.f", "on e") + c.Maybe(" if in(a)or(x<1)")
	if c.Below(2) == 0 {
		s += " go"
		for range 1 + c.Below(4) {
			s += " " + c.name()
		}
	}
	return s + c.Maybe(" inner") + c.Maybe(" do "+c.acts())
}

// silent is a line that says nothing.
func (c *chance) silent() string { return c.Pick("", "  ", "#", "  # end", "#chart c") }

// lines are those of a chart, most often of one that is right, up to so many.
func (c *chance) lines(most int) []string {
	l := []string{c.Maybe(c.silent()), "chart " + c.name() + c.Maybe(" a")}
	for range c.Below(3) * c.Below(10) {
		l = append(l, c.Pick("var x 1", "var b_1 - 5", "var cc ''", "  var t true"))
	}
	var open []string
	deepest := 1 + c.Below(9)
	for range c.Below(most) {
		l = append(l, c.Pick("", " ", "  ")+c.next(&open, deepest))
	}
	for range open {
		l = append(l, "end")
	}
	return l
}

// next is a line that most often may stand where these are open.
func (c *chance) next(open *[]string, deepest int) string {
	in := ""
	if n := len(*open); n > 0 {
		in = (*open)[n-1]
	}
	switch k := c.Below(10); {
	case k == 0:
		return c.silent()
	case k < 3 && in != "final":
		return c.Pick("deep ", "shallow ") + c.name() + " " + c.name()
	case k < 6 && in != "final" && len(*open) < deepest || in == "":
		word := c.Pick("state", "state", "parallel", "final")
		*open = append(*open, word)
		return word + " " + c.name() + map[bool]string{true: c.Maybe(" b_1")}[word == "state"]
	case k == 6:
		return c.Pick("enter ", "exit ") + c.acts()
	case k == 7:
		return c.trans()
	}
	*open = (*open)[:len(*open)-1]
	return "end"
}

// great are the lines of a chart with as many variables, states and transitions as there may be, some 400 lines.
func (c *chance) great() []string {
	l := append([]string{"chart c"}, slices.Repeat([]string{"var x 1"}, 16)...)
	open := 0
	for range 48 {
		for open == 8 || open > 0 && c.Below(3) == 0 {
			l = append(l, "end")
			open--
		}
		l = append(l, c.Pick("state ", "parallel ")+c.name(), c.trans(), c.trans())
		open++
		for range c.Below(8) {
			l = append(l, c.Pick("enter ", "exit ")+c.acts())
		}
	}
	l = append(l, slices.Repeat([]string{"end"}, open)...)
	for len(l) < 398+c.Below(3) {
		l = slices.Insert(l, c.Below(len(l)), c.silent())
	}
	return l
}

// times is a text so many times.
func times(n int, s string) string { return strings.Repeat(s, n) }
