package snap

import (
	"strconv"
	"strings"

	"whirligig/table"
)

// The statuses' words, by their numbers.
var words = [...]string{Fresh: "fresh", Running: "running", Done: "done", Halted: "halted"}

// Word is the word of a status.
func Word(status int) string {
	if status < Fresh || status > Halted {
		return ""
	}
	return words[status]
}

// Lines are what there is, as lines.
func (s Snap) Lines(t table.Table) []string {
	v := s.Env(t)
	l := []string{
		row(Word(s.Status), "moves", strconv.Itoa(s.Moves), "clock", strconv.FormatInt(s.Clock, 10)),
		row("in", v.In...),
	}
	for _, c := range v.Vars {
		l = append(l, row("var", c.Name, c.V.Show()))
	}
	l = append(l, row("inner", s.Inner...), row("outer", s.Outer...))
	for _, w := range s.Timers {
		l = append(l, row("timer", w.Name, strconv.FormatInt(w.Due, 10)))
	}
	l = append(l, s.remembered(t)...)
	return append(l, s.done(t)...)
}

// row is a line of some words.
func row(first string, more ...string) string {
	return strings.Join(append([]string{first}, more...), " ")
}

// remembered are the lines of the states that remember something.
func (s Snap) remembered(t table.Table) []string {
	var l []string
	for i, r := range t.Rows {
		if i < len(s.Past) && s.Past[i].Count() > 0 {
			l = append(l, row("past "+r.Name, t.Names(s.Past[i])...))
		}
	}
	return l
}

// done are the lines of what the last move did.
func (m Last) done(t table.Table) []string {
	var l []string
	if m.Event != "" {
		l = append(l, row("event", m.Event))
	}
	if len(m.Taken) > 0 {
		l = append(l, row("taken", digits(m.Taken)...))
	}
	if m.Entered.Count() > 0 {
		l = append(l, row("entered", t.Names(m.Entered)...))
	}
	for _, text := range m.Out {
		l = append(l, row("out", text))
	}
	return l
}

// digits are numbers as texts.
func digits(l []int) []string {
	texts := make([]string, len(l))
	for i, n := range l {
		texts[i] = strconv.Itoa(n)
	}
	return texts
}
