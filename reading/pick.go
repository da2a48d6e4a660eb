package reading

import (
	"slices"
	"strings"

	"whirligig/api"
	"whirligig/eval"
	"whirligig/snap"
)

// matches tells whether an event is called for by the word of a transition.
func matches(word, name string) bool {
	if word == "*" {
		return name != ""
	}
	of, all := strings.Split(word, "."), strings.Split(name, ".")
	return len(of) <= len(all) && slices.Equal(of, all[:len(of)])
}

// env is what conditions have.
func (c *Chart) env(s snap.Snap) eval.Env {
	var v eval.Env
	for i, of := range c.Vars {
		v.Vars = append(v.Vars, eval.Cell{Name: of.Name, V: s.Data[i]})
	}
	for n := range c.Of(s.In) {
		v.In = append(v.In, n.Name)
	}
	return v
}

// Picked is what transitions are taken, in order, and how often a condition told an error.
type Picked struct {
	Ways   []*Way
	Errors int
}

// Enabled are the transitions that are enabled upon an event; upon none, if its name is empty.
func (c *Chart) Enabled(s snap.Snap, name string) Picked {
	var p Picked
	for _, n := range c.Sorted(c.Of(s.In)) {
		if !n.Atomic() {
			continue
		}
		w, errors := c.enabledFrom(n, c.env(s), name)
		p.Errors += errors
		if w != nil && !slices.Contains(p.Ways, w) {
			p.Ways = append(p.Ways, w)
		}
	}
	return p
}

// enabledFrom is the first transition of a state, or of its ancestors, that is enabled; nil: there is none.
func (c *Chart) enabledFrom(n *State, v eval.Env, name string) (*Way, int) {
	errors := 0
	for ; n != nil; n = n.In {
		for _, w := range n.Ways {
			if name == "" && w.Event != "" || name != "" && (w.Event == "" || !matches(w.Event, name)) {
				continue
			}
			if w.If == nil {
				return w, errors
			}
			yes, e := eval.Holds(w.If, v)
			if e != api.OK {
				errors++
			}
			if yes {
				return w, errors
			}
		}
	}
	return nil, errors
}

// Select are the transitions that are enabled, without those that are preempted.
func (c *Chart) Select(s snap.Snap, name string) Picked {
	p := c.Enabled(s, name)
	var filtered []*Way
	for _, one := range p.Ways {
		preempted := false
		var remove []*Way
		for _, two := range filtered {
			if c.Exits(s, one)&c.Exits(s, two) == 0 {
				continue
			}
			if !one.Source.Within(two.Source) {
				preempted = true
				break
			}
			remove = append(remove, two)
		}
		if preempted {
			continue
		}
		filtered = slices.DeleteFunc(filtered, func(w *Way) bool { return slices.Contains(remove, w) })
		filtered = append(filtered, one)
	}
	p.Ways = filtered
	return p
}
