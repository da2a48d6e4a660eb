package move_test

import (
	"slices"
	"strings"
	"testing"

	"whirligig/bits"
	"whirligig/reading"
	"whirligig/snap"
	"whirligig/table"
)

// model is a second reading of a chart.
type model struct{ *reading.Chart }

// ways are the transitions at some places.
func (m model) ways(places ...int) []*reading.Way {
	var l []*reading.Way
	for _, g := range places {
		l = append(l, m.Ways[g])
	}
	return l
}

// whole adds a state with all that must be active with it, so that some targets are: of a compound one the child that is one, or in which one is, else its first one.
func (m model) whole(n *reading.State, targets, to reading.Some) {
	to[n] = true
	kids := n.States()
	if n.Compound() {
		at := slices.IndexFunc(kids, func(k *reading.State) bool {
			return targets[k] || slices.ContainsFunc(m.Sorted(targets), func(t *reading.State) bool { return t.Within(k) })
		})
		kids = []*reading.State{m.First(n)}
		if at >= 0 {
			kids = n.States()[at : at+1]
		}
	}
	for _, k := range kids {
		m.whole(k, targets, to)
	}
}

// apart are what transitions enter that aren't in each other's way: what must be active within the domain of each one for its targets to be.
func (m model) apart(s snap.Snap, goes []int) bits.Set {
	var all bits.Set
	for _, w := range m.ways(goes...) {
		if o := m.Domain(s, w); o != nil {
			to := reading.Some{}
			m.whole(o, m.Targets(s, w.To), to)
			to[o] = false
			all |= to.Set()
		}
	}
	return all
}

// tableAndModel is the table of a chart that is valid, and what its text tells.
func tableAndModel(text string) (table.Table, model) {
	x, c := reading.Both(text)
	return x, model{c}
}

// made is the table of a chart of which it is known that it is valid; a bar between blanks parts its lines, too.
func made(t *testing.T, text string) table.Table {
	t.Helper()
	x, ok := reading.Table(strings.ReplaceAll(text, " | ", "\n"))
	if !ok {
		t.Fatal(text)
	}
	return x
}

// charts and grown are so many valid charts, made by chance, of up to so many states, and of at least so many.
func charts(seed, many, most int) []string { return reading.Charts(seed, many, most) }

func grown(seed, many, least int) []string {
	return reading.Grove{Heads: []string{"on e"}}.Charts(seed, many, least)
}
