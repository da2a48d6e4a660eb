package reading

import (
	"cmp"
	"slices"

	"whirligig/act"
	"whirligig/api"
	"whirligig/eval"
	"whirligig/expr"
	"whirligig/queue"
	"whirligig/snap"
	"whirligig/val"
)

// content is executable content that is executed.
type content struct {
	*Chart
	snap.Snap
	model map[string]val.Value // the data, by their names
}

// outcome is what comes of an element of executable content.
type outcome int

const (
	done  outcome = iota
	wrong         // an expression told an error
	full          // there was no room
)

// Execute executes blocks of executable content in a snapshot; false: there was no room for what came of them.
func (c *Chart) Execute(s snap.Snap, blocks ...[]act.Act) (snap.Snap, bool) {
	x := content{c, s.Copy(), map[string]val.Value{}}
	for i, v := range c.Vars {
		x.model[v.Name] = s.Data[i]
	}
	for _, l := range blocks {
		if !x.block(l) {
			return s.Copy(), false
		}
	}
	for i, v := range c.Vars {
		x.Data[i] = x.model[v.Name]
	}
	return x.Snap, true
}

// block executes the elements of a block, of which one that goes wrong is the last one; false: there was no room.
func (x *content) block(l []act.Act) bool {
	for _, a := range l {
		switch x.element(a) {
		case wrong:
			return enqueue(&x.Inner, "error.execution") == done
		case full:
			return false
		}
	}
	return true
}

// value is what an expression comes to by the data as they are now; false: it told an error.
func (x *content) value(e expr.Expr) (val.Value, bool) {
	var v eval.Env
	for name, has := range x.model {
		v.Vars = append(v.Vars, eval.Cell{Name: name, V: has})
	}
	for n := range x.Of(x.In) {
		v.In = append(v.In, n.Name)
	}
	got, err := eval.Eval(e, v)
	return got, err == api.OK
}

// enqueue puts an event at the end of a queue, which has room for eight.
func enqueue(l *[]string, name string) outcome {
	if len(*l) > 7 {
		return full
	}
	*l = append(*l, name)
	return done
}

// element executes an element, if its condition is true.
func (x *content) element(a act.Act) outcome {
	if a.If != nil {
		switch test, ok := x.value(a.If); {
		case !ok:
			return wrong
		case test.N == 0:
			return done
		}
	}
	switch a.Kind {
	case act.Raise:
		return enqueue(&x.Inner, a.Name)
	case act.Send:
		if a.N == 0 {
			return enqueue(&x.Outer, a.Name)
		}
		return x.delay(a.Name, a.N)
	case act.Cancel:
		x.Timers = slices.DeleteFunc(x.Timers, func(t queue.Timer) bool { return t.Name == a.Name })
		return done
	}
	got, ok := x.value(a.X)
	switch {
	case !ok:
		return wrong
	case a.Kind == act.Set:
		x.model[a.Name] = got
	default:
		x.Out = append(x.Out, got.Show())
	}
	return done
}

// delay sends an event that comes later: the timers, of which there may be eight, are sorted anew.
func (x *content) delay(name string, n int64) outcome {
	if len(x.Timers) > 7 {
		return full
	}
	x.Timers = append(x.Timers, queue.Timer{Due: x.Clock + n, Seq: x.Seq, Name: name})
	x.Seq++
	slices.SortStableFunc(x.Timers, func(a, b queue.Timer) int {
		return cmp.Or(cmp.Compare(a.Due, b.Due), cmp.Compare(a.Seq, b.Seq))
	})
	return done
}
