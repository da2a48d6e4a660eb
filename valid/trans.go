package valid

import (
	"slices"

	"whirligig/act"
	"whirligig/api"
	"whirligig/expr"
	"whirligig/kind"
	"whirligig/line"
	"whirligig/val"
)

// acts looks at the acts of a state.
func (l *looker) acts(i int) api.Errno {
	for _, acts := range slices.Concat(l.States[i].Enter, l.States[i].Exit) {
		if e := l.each(acts); e != api.OK {
			return e
		}
	}
	return api.OK
}

// each looks at acts, one by one.
func (l *looker) each(acts []act.Act) api.Errno {
	for _, a := range acts {
		if e := l.act(a); e != api.OK {
			return e
		}
	}
	return api.OK
}

// act looks at an act.
func (l *looker) act(a act.Act) api.Errno {
	if e := l.truth(a.If); e != api.OK {
		return e
	}
	switch a.Kind {
	case act.Set:
		return l.set(a)
	case act.Log:
		_, e := kind.Of(a.X, l.scope)
		return e
	}
	return api.OK
}

// set looks whether what an act sets may be set to that.
func (l *looker) set(a act.Act) api.Errno {
	k, e := kind.Of(a.X, l.scope)
	if e != api.OK {
		return e
	}
	at := slices.IndexFunc(l.Vars, named(a.Name))
	if at < 0 {
		return api.ErrName
	}
	return unless(l.Vars[at].V.Kind == k, api.ErrType)
}

// truth looks whether a condition, if there is one, can hold.
func (l *looker) truth(x expr.Expr) api.Errno {
	if len(x) == 0 {
		return api.OK
	}
	return kind.Is(x, l.scope, val.Bool)
}

// trans looks at the transitions of a state.
func (l *looker) trans(i int) api.Errno {
	for _, t := range l.States[i].Trans {
		if e := l.way(t); e != api.OK {
			return e
		}
	}
	return api.OK
}

// way looks at a transition.
func (l *looker) way(t line.Trans) api.Errno {
	// Without all three it would be taken again and again, and come to nothing.
	if t.Event == "" && len(t.If) == 0 && len(t.Goes) == 0 {
		return api.ErrForm
	}
	if e := l.truth(t.If); e != api.OK {
		return e
	}
	if e := l.targets(t.Goes); e != api.OK {
		return e
	}
	return l.each(t.Do)
}

// targets looks whether a chart can be in all of some states at one time.
func (l *looker) targets(names []string) api.Errno {
	var ahead []int
	for _, name := range names {
		at, ok := l.Find(name)
		if !ok || slices.ContainsFunc(ahead, func(o int) bool { return !l.apart(at, o) }) {
			return api.ErrTarget
		}
		ahead = append(ahead, at)
	}
	return api.OK
}

// apart tells whether two states lie in different parts of a parallel one.
func (l *looker) apart(a, b int) bool {
	if a == b || l.Within(a, b) || l.Within(b, a) {
		return false
	}
	// A state stands behind what it lies within: of all that is around both, the last one is the innermost.
	for i, s := range slices.Backward(l.States) {
		if l.Within(a, i) && l.Within(b, i) {
			return s.Kind == line.Parallel
		}
	}
	return false
}
