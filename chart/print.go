package chart

import (
	"strings"

	"whirligig/act"
	"whirligig/line"
)

// printer prints a chart, line by line.
type printer struct {
	Chart
	text strings.Builder
	open []int // the places of the states that are open, but the root's
}

// Print is a chart as a text.
func Print(c Chart) string {
	if len(c.States) == 0 {
		return ""
	}
	p := printer{Chart: c}
	p.say(line.Line{Kind: line.Chart, Name: p.Name, Start: p.States[0].Start}.Text())
	for _, v := range p.Vars {
		p.say(line.Line{Kind: line.Var, Name: v.Name, V: v.V}.Text())
	}
	// They stand in the list as in the text: each behind its Parent, and behind all that ones ahead of it have in them.
	for i := 1; i < len(p.States); i++ {
		p.closeTo(p.States[i].Parent)
		p.state(i)
	}
	p.closeTo(0)
	return p.text.String()
}

// state prints a state up to those in it.
func (p *printer) state(i int) {
	s := p.States[i]
	p.say(line.Line{Kind: s.Kind, Name: s.Name, Start: s.Start}.Text())
	if s.Past() {
		return
	}
	p.open = append(p.open, i)
	p.acts(line.Enter, s.Enter)
	p.acts(line.Exit, s.Exit)
	for _, t := range s.Trans {
		p.say(t.Show())
	}
}

// acts prints lists of acts, each as a line of a kind.
func (p *printer) acts(kind int, lists [][]act.Act) {
	for _, l := range lists {
		p.say(line.Line{Kind: kind, Do: l}.Text())
	}
}

// closeTo closes states until one of them is the innermost one that is open, or just the root is.
func (p *printer) closeTo(i int) {
	for n := len(p.open); n > 0 && p.open[n-1] != i; n = len(p.open) {
		p.open = p.open[:n-1]
		p.say(line.Line{Kind: line.End}.Text())
	}
}

// say prints a line, as far in as it stands.
func (p *printer) say(s string) {
	p.text.WriteString(strings.Repeat("  ", len(p.open)))
	p.text.WriteString(s)
	p.text.WriteString("\n")
}
