package exec_test

import (
	"math"
	"slices"
	"strings"
	"testing"

	"whirligig/act"
	"whirligig/api"
	"whirligig/bits"
	"whirligig/chart"
	"whirligig/dice"
	"whirligig/exec"
	"whirligig/expr"
	"whirligig/queue"
	"whirligig/reading"
	"whirligig/snap"
	"whirligig/table"
	"whirligig/val"
)

// maker makes acts by chance.
type maker struct{ dice.Dice }

// number is an expression of a number.
func (m *maker) number() string {
	return m.Pick("n", "m", "n + 1", "m - 1", "-n", "n + m", "m * n", "n / m", "m % n", "n - n", "0", "2", "7 / 2", "9223372036854775807", "n * n")
}

// truth is an expression of a truth.
func (m *maker) truth() string {
	return m.Pick("b", "not b", "in(a)", "in(d) or in(z)", "true", "false", "n = m", "n < m", "b or n / m = 1", "n != 0 and m / n > 0", "1 % n = 0", "s = 'ab'", "s + s = s")
}

// act is an act.
func (m *maker) act() string {
	s := ""
	if m.Below(3) == 0 {
		s = "if " + m.truth() + " : "
	}
	switch m.Below(12) {
	case 0, 1:
		return s + "set " + m.Pick("n ", "m ") + m.number()
	case 2:
		return s + "set b " + m.truth()
	case 3:
		return s + "set s " + m.Pick("s", "''", "'b'", "s + 'b'", "s + s", "'a' + s")
	case 4, 5:
		return s + "raise " + m.event()
	case 6:
		return s + "send " + m.event() + " 0"
	case 7, 8:
		return s + "send " + m.event() + m.Pick(" 1", " 1", " 2", " 3", " 0", " 1048576")
	case 9:
		return s + "cancel " + m.event()
	}
	return s + "log " + m.Pick(m.number(), m.truth(), "s", "s + 'b'")
}

// event is the name of an event.
func (m *maker) event() string { return m.Pick("e", "e.f", "f", "error.execution") }

// acts are some acts, one behind the other.
func (m *maker) acts() string {
	l := []string{m.act()}
	for m.Below(4) > 0 && len(l) < api.MaxActs {
		l = append(l, m.act())
	}
	return strings.Join(l, " ; ")
}

// text is the text of a chart of some states with many acts.
func (m *maker) text() string {
	l := []string{"chart c", "var b true", "var n 0", "var s 'ab'", "var m 3", "parallel p", "state q", "state a", "%", "end", "state d", "%", "end", "end", "state r", "%", "end", "end", "state z", "%", "end"}
	for i := range l {
		if l[i] == "%" {
			var more []string
			for range 4 {
				more = append(more, m.Pick("enter ", "exit ", "on e do ", "on f do ")+m.acts())
			}
			l[i] = strings.Join(more, "\n")
		}
	}
	return strings.Join(l, "\n")
}

// charts are valid charts with many acts.
func charts(seed, many int) []string {
	m := maker{dice.Dice(seed)}
	var l []string
	for len(l) < many {
		text := m.text()
		if _, ok := reading.Table(text); ok {
			l = append(l, text)
		}
	}
	return l
}

// lists are all lists of acts of a chart: as its table has them, and as its text tells them.
func lists(x table.Table, c *reading.Chart) (l, told [][]act.Act) {
	for i, r := range x.Rows {
		l = append(slices.Concat(l, r.Enter), r.Exit...)
		told = append(slices.Concat(told, c.All[i].Enter), c.All[i].Exit...)
	}
	for i, g := range x.Goes {
		l, told = append(l, g.Do), append(told, c.Ways[i].Do)
	}
	return l, told
}

// chance is a snapshot made by chance, with something in its queues and timers.
func chance(d *dice.Dice, c *reading.Chart) snap.Snap {
	s := c.Chance(d)
	s.Status, s.Moves, s.Seq = 1+d.Below(4), d.Below(99), d.Below(9)
	s.Clock = dice.One(d, []int64{0, 1, 10, api.MaxClock - 1, api.MaxClock})
	s.Last = snap.Last{Event: d.Maybe("e"), Entered: s.In, Out: []string{"0", "'x'"}[d.Below(3)/2:]}
	names := []string{"e", "e.f", "f", "g", "h", "i", "e", "j"}
	s.Inner, s.Outer = names[d.Below(9):], names[d.Below(9):]
	for i := range d.Below(9) {
		s.Timers = append(s.Timers, queue.Timer{Due: s.Clock + int64(1+i/3), Seq: s.Seq, Name: dice.One(d, names)})
		s.Seq += d.Below(3)
	}
	return s
}

// P17.1: charts made by chance, from snapshots made by chance on, are held against what the SCXML algorithm executes.
func TestAny(t *testing.T) {
	d := dice.Dice(17)
	full, errors, done := 0, 0, 0
	for _, text := range slices.Concat(charts(1, 400), reading.Charts(2, 200, 20)) {
		x, c := reading.Both(text)
		l, told := lists(x, c)
		if len(l) == 0 {
			continue
		}
		for range 60 {
			s := chance(&d, c)
			was := s.Copy()
			from := d.Below(len(l))
			to := from + 1 + d.Below(min(4, len(l)-from))
			o, e := exec.Do(x, s, l[from:to]...)
			want, ok := c.Execute(s, told[from:to]...)
			if !o.Same(want) || (e == api.OK) != ok || e != api.OK && e != api.ErrFull || !s.Same(was) {
				t.Fatalf("%s:\n%v: %d to %d: %v, not %v: %d", text, s, from, to, o, want, e)
			}
			if !ok {
				full++
				continue
			}
			done++
			errors += strings.Count(strings.Join(o.Inner, " "), "error") - strings.Count(strings.Join(s.Inner, " "), "error")
		}
	}
	if full < 5000 || errors < 5000 || done < 5000 {
		t.Error(full, errors, done)
	}
}

// P17.1: lists that are done by several calls come to the same, as long as there is room; each variable keeps its kind.
func TestByTurns(t *testing.T) {
	ends := map[api.Errno]int{}
	for _, text := range charts(3, 300) {
		x, c := reading.Both(text)
		l, _ := lists(x, c)
		s := snap.Begin(x)
		s.In = c.Begins()
		one, e := s, api.OK
		for i := range l {
			next, f := one, e
			if e == api.OK {
				next, f = exec.Do(x, one, l[i])
			}
			// Where there was no room once, there is none with what stands behind, either.
			all, g := exec.Do(x, s, l[:i+1]...)
			if f != g || f == api.OK && !all.Same(next) || f != api.OK && (!all.Same(s) || !next.Same(one)) {
				t.Fatal(text, i, all, next, f, g)
			}
			for j, v := range next.Data {
				if !v.Right() || v.Kind != x.Vars[j].V.Kind {
					t.Fatal(text, i, v)
				}
			}
			one, e = next, f
		}
		ends[e]++
	}
	if len(ends) != 2 || ends[api.OK] < 5 || ends[api.ErrFull] < 100 {
		t.Error(ends)
	}
}

// with is a list with some room behind it, and what is in that.
func with[T any](room T, l ...T) ([]T, func() T) {
	l = append(slices.Clip(l), room)
	return l[:len(l)-1], func() T { return l[len(l)-1] }
}

// scratch writes over all lists of a snapshot, and their spare room.
func scratch(s snap.Snap) {
	fill(s.Past, 99)
	fill(s.Data, val.Of(99))
	fill(s.Inner, "!")
	fill(s.Outer, "!")
	fill(s.Timers, queue.Timer{Name: "!"})
	fill(s.Taken, 99)
	fill(s.Out, "!")
}

// fill writes over all that a list has, and its spare room.
func fill[T any](l []T, v T) {
	l = l[:cap(l)]
	for i := range l {
		l[i] = v
	}
}

// What is handed in stays as it is, its spare room too; what is told has memory of its own.
func TestMemory(t *testing.T) {
	x, s, l := yard(t, "set n 1 ; set s 'c' ; raise e ; send f 0 ; send g 1 ; log n ; log n / 0", "raise f ; cancel g", many(8, "raise e"), "log n", "set n 5")
	past, pastRoom := with(bits.Of(7), s.Past...)
	data, dataRoom := with(val.Of(-7), s.Data...)
	inner, innerRoom := with("x", "i")
	outer, outerRoom := with("y", "o")
	timers, timersRoom := with(queue.Timer{Name: "z"}, queue.Timer{Due: 10, Name: "g"}, queue.Timer{Due: 12, Name: "h"})
	taken, takenRoom := with(98, 1, 0)
	out, outRoom := with("w", "0")
	s.Past, s.Data, s.Inner, s.Outer, s.Timers, s.Taken, s.Out = past, data, inner, outer, timers, taken, out
	was, show := s.Copy(), act.Show(slices.Concat(l...)...)
	calls := []func() (snap.Snap, api.Errno){
		func() (snap.Snap, api.Errno) { return exec.Do(x, s) },
		func() (snap.Snap, api.Errno) { return exec.Do(x, s, l[0]) },
		func() (snap.Snap, api.Errno) { return exec.Do(x, s, l[0], l[1]) },
		func() (snap.Snap, api.Errno) { return exec.Do(x, s, l[1]) },
		func() (snap.Snap, api.Errno) { return exec.Do(x, s, l...) },
		func() (snap.Snap, api.Errno) { return exec.Do(x, s, l[3], l[4]) },
		func() (snap.Snap, api.Errno) { return exec.Raise(s) },
		func() (snap.Snap, api.Errno) { return exec.Raise(s, "a", "b") },
		func() (snap.Snap, api.Errno) { return exec.Raise(s, inner...) },
		func() (snap.Snap, api.Errno) { return exec.Raise(s, strings.Fields("a b c d e f g h")...) },
	}
	for i, call := range calls {
		a, e := call()
		b, f := call()
		want := b.Copy()
		if !a.Same(b) || e != f {
			t.Error(i, a, b, e, f)
		}
		scratch(a)
		if !b.Same(want) || !s.Same(was) {
			t.Error(i, b, s)
		}
	}
	if pastRoom() != bits.Of(7) || dataRoom() != val.Of(-7) || innerRoom() != "x" || outerRoom() != "y" || timersRoom() != (queue.Timer{Name: "z"}) || takenRoom() != 98 || outRoom() != "w" {
		t.Error(pastRoom(), dataRoom(), innerRoom(), outerRoom(), timersRoom(), takenRoom(), outRoom())
	}
	if act.Show(slices.Concat(l...)...) != show || x.Vars[0].V != val.Of(0) {
		t.Error(x.Vars, show)
	}
	// What was handed in may be written over afterwards.
	a, _ := exec.Do(x, s, l[0])
	b, _ := exec.Raise(s, inner...)
	wantA, wantB := a.Copy(), b.Copy()
	scratch(s)
	if !a.Same(wantA) || !b.Same(wantB) {
		t.Error(a, b)
	}
}

// P1: of whatever tables, snapshots and acts, the calls end; beside an error the snapshot is as it was.
func TestWild(t *testing.T) {
	d := dice.Dice(19)
	number := func() int64 {
		return dice.One(&d, []int64{math.MinInt64, -1, 0, 0, 1, 2, api.MaxDelay, api.MaxClock, math.MaxInt64})
	}
	name := func() string { return d.Pick("", "n", "n", "m", "e", "\xff", "error.execution") }
	value := func() val.Value {
		return dice.One(&d, []val.Value{{}, val.Of(0), val.Of(math.MinInt64), val.Truth(true), val.Word("a"), val.Word("\xff"), {Kind: -1}, {Kind: 9, S: "x"}, {Kind: val.Bool, N: 7}})
	}
	one, _ := expr.Read("n")
	sum, _ := expr.Read("1 / n + m")
	test, _ := expr.Read("n / n = 1 or in(a)")
	tests := []expr.Expr{nil, nil, {}, one, sum, test, test[1:], {{Op: -1}}, {{Op: val.Add, L: 0, R: 7}}, {{Op: expr.Lit, V: val.Truth(true)}}, {{Op: expr.Lit, V: val.Value{Kind: 7}}}, make(expr.Expr, 40)}
	some := func(n int) []string {
		var l []string
		for range d.Below(n) {
			l = append(l, name())
		}
		return l
	}
	for range 30000 {
		x := table.Table{Rows: make([]table.Row, d.Below(3))}
		for range d.Below(4) {
			x.Vars = append(x.Vars, chart.Var{Name: name(), V: value()})
		}
		s := snap.Snap{Status: int(number()), Clock: number(), Seq: int(number()), In: bits.Set(number()), Inner: some(11), Outer: some(11), Last: snap.Last{Out: some(3)}}
		for range d.Below(4) {
			s.Data = append(s.Data, value())
		}
		for range d.Below(10) {
			s.Timers = append(s.Timers, queue.Timer{Due: number(), Seq: int(number()), Name: name()})
		}
		lists := make([][]act.Act, d.Below(4))
		for i := range lists {
			for range d.Below(10) {
				lists[i] = append(lists[i], act.Act{Kind: d.Below(8) - 1, If: dice.One(&d, tests), Name: name(), X: dice.One(&d, tests), N: number()})
			}
		}
		was := s.Copy()
		if o, e := exec.Do(x, s, lists...); e != api.OK && (e != api.ErrFull || !o.Same(s)) || !s.Same(was) {
			t.Fatal(x, s, lists, o, e)
		}
		if o, e := exec.Raise(s, some(5)...); e != api.OK && (e != api.ErrFull || !o.Same(s)) || !s.Same(was) {
			t.Fatal(s, o, e)
		}
	}
}

// P1: of a table that was made, variables have no value, or there are none; what isn't there isn't set.
func TestNone(t *testing.T) {
	x, s, l := yard(t, "set m 7", "log m", "set n 5 ; log n")
	for n, want := range []string{
		"inner error.execution,error.execution",
		"n 5; inner error.execution; out 5",
		"n 5; m 7; out 7,5",
	} {
		y := x
		y.Vars = x.Vars[:n]
		if o, e := exec.Do(y, s, l...); e != api.OK || changed(y, s, o) != want {
			t.Error(n, o, e)
		}
		none := s
		none.Data = s.Data[:n]
		if o, e := exec.Do(x, none, l...); e != api.OK || changed(y, none, o) != want {
			t.Error(n, o, e)
		}
	}
}
