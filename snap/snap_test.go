package snap_test

import (
	"math"
	"slices"
	"testing"

	"whirligig/bits"
	"whirligig/chart"
	"whirligig/dice"
	"whirligig/eval"
	"whirligig/line"
	"whirligig/queue"
	"whirligig/snap"
	"whirligig/table"
	"whirligig/val"
)

// The statuses are these numbers.
func TestStatuses(t *testing.T) {
	if snap.Fresh != 1 || snap.Running != 2 || snap.Done != 3 || snap.Halted != 4 {
		t.Error(snap.Fresh, snap.Running, snap.Done, snap.Halted)
	}
}

// door is a chart with all kinds of states: 1 shut, 2 calm, 3 again, 4 open, 5 left, 6 back, 7 wide, 8 right, 9 door, 10 gone.
const door = "chart door shut | var n -3 | var who 'no one' | var ok true | state shut | state calm | end | deep again calm | end | parallel open | state left | shallow back wide | state wide | end | end | state right | final door | end | end | end | final gone | end"

// P14.1: what there is ahead of the first move.
func TestBegin(t *testing.T) {
	for text, data := range map[string][]val.Value{
		door:                                {val.Of(-3), val.Word("no one"), val.Truth(true)},
		"chart c | state a | end":           nil,
		"chart c | var b 7 | final a | end": {val.Of(7)},
		"chart c | var b '' | var a false | state a | end | deep h a": {val.Word(""), val.Truth(false)},
	} {
		x, m := made(t, text)
		s := snap.Begin(x)
		want := snap.Snap{Status: snap.Fresh, Past: make([]bits.Set, len(m.states)), Data: data}
		if !alike(s, want) || !s.Same(want) {
			t.Errorf("%s: %v", text, s)
		}
	}
}

// P14.1: charts made by chance begin with what their texts say.
func TestBeginAny(t *testing.T) {
	for _, text := range charts(1, 60, 48) {
		x, m := made(t, text)
		want := snap.Snap{Status: 1}
		for range m.states {
			want.Past = append(want.Past, 0)
		}
		for _, v := range m.vars {
			of, _ := val.Read(v.value)
			want.Data = append(want.Data, of)
		}
		if s := snap.Begin(x); !alike(s, want) {
			t.Fatalf("%s: %v", text, s)
		}
	}
}

// P14.2: the words of all statuses, and of numbers that are none.
func TestWord(t *testing.T) {
	words := map[int]string{snap.Fresh: "fresh", snap.Running: "running", snap.Done: "done", snap.Halted: "halted"}
	for n := -300; n < 300; n++ {
		if got := snap.Word(n); got != words[n] {
			t.Error(n, got)
		}
	}
	for _, n := range []int{math.MinInt, math.MinInt + 1, math.MinInt + 2, math.MaxInt, 1 << 32, 1<<32 + 1, 1<<63 - 1, -1 << 32, 1<<8 + 1, 1<<16 + 2} {
		if got := snap.Word(n); got != "" {
			t.Error(n, got)
		}
	}
}

// P14.2: variables with what they have, in order, and the active states.
func TestEnv(t *testing.T) {
	x, _ := made(t, door)
	s := snap.Begin(x)
	want := eval.Env{Vars: []eval.Cell{{Name: "n", V: val.Of(-3)}, {Name: "who", V: val.Word("no one")}, {Name: "ok", V: val.Truth(true)}}}
	if v := s.Env(x); !sameEnv(v, want) {
		t.Error(v)
	}
	// What they have now counts; and states come rising by places, not by letters.
	s.Data[0], s.Data[1], s.Data[2], s.In = val.Of(8), val.Word("a"), val.Truth(false), bits.Of(9, 8, 7, 5, 4)
	want = eval.Env{
		Vars: []eval.Cell{{Name: "n", V: val.Of(8)}, {Name: "who", V: val.Word("a")}, {Name: "ok", V: val.Truth(false)}},
		In:   []string{"open", "left", "wide", "right", "door"},
	}
	if v := s.Env(x); !sameEnv(v, want) {
		t.Error(v)
	}
	x, _ = made(t, "chart c | state a | end")
	if v := (snap.Snap{In: bits.Of(1)}).Env(x); !sameEnv(v, eval.Env{In: []string{"a"}}) {
		t.Error(v)
	}
}

// sameEnv tells whether two environments are the same.
func sameEnv(a, b eval.Env) bool { return slices.Equal(a.Vars, b.Vars) && slices.Equal(a.In, b.In) }

// P14.2: environments of charts and snapshots made by chance.
func TestEnvAny(t *testing.T) {
	d := dice.Dice(2)
	for _, text := range charts(2, 60, 48) {
		x, m := made(t, text)
		for range 20 {
			s := m.chance(&d)
			want := eval.Env{In: m.names(s.In)}
			for i, v := range m.vars {
				want.Vars = append(want.Vars, eval.Cell{Name: v.name, V: s.Data[i]})
			}
			if v := s.Env(x); !sameEnv(v, want) {
				t.Fatalf("%s: %v: %v", text, s, v)
			}
		}
	}
}

// P1: whatever is handed in, all calls end.
func TestWild(t *testing.T) {
	d := dice.Dice(3)
	numbers := []int{math.MinInt, -64, -1, 0, 1, 2, 3, 4, 5, 6, 7, 63, 64, 1 << 32, math.MaxInt}
	one := func() int { return dice.One(&d, numbers) }
	set := func() bits.Set {
		return dice.One(&d, []bits.Set{0, 1, 1 << 63, 1<<64 - 1, bits.Of(one(), one(), one()), bits.Of(0, 1, 2)})
	}
	for range 20000 {
		x := table.Table{Vars: make([]chart.Var, d.Below(4)), Rows: make([]table.Row, d.Below(6)), Goes: make([]table.Go, d.Below(3))}
		if d.Below(10) == 0 {
			x.Rows = make([]table.Row, 70)
		}
		for i := range x.Rows {
			x.Rows[i] = table.Row{Name: d.Pick("", "a"), Kind: dice.One(&d, []int{line.Chart, line.State, line.Parallel, line.Deep, one()}), Parent: one(), Start: one(), Up: set(), Under: set(), Kids: set(), Past: set(), Goes: numbers}
		}
		s := snap.Snap{Status: one(), Moves: one(), Clock: int64(one()), Seq: one(), In: set(), Past: make([]bits.Set, d.Below(9)), Data: make([]val.Value, d.Below(6)), Inner: upTo(&d, func() string { return d.Pick("", "\xff") })}
		for i := range s.Past {
			s.Past[i] = set()
		}
		for i := range s.Data {
			s.Data[i] = val.Value{Kind: one(), N: int64(one()), S: d.Pick("", "'")}
		}
		s.Timers = make([]queue.Timer, d.Below(10))
		s.Taken, s.Entered, s.Out = numbers[:d.Below(9)], set(), make([]string, d.Below(9))
		snap.Begin(x)
		if !s.Copy().Same(s) || (snap.Snap{}).Same(s) != alike(s, snap.Snap{}) {
			t.Fatal(s)
		}
		s.Env(x)
		s.Legal(x)
		s.Lines(x)
		(snap.Snap{}).Lines(x)
		s.Env(table.Table{})
		s.Legal(table.Table{})
		s.Lines(table.Table{})
	}
	var x table.Table
	if s := snap.Begin(x); !alike(s, snap.Snap{Status: snap.Fresh}) || s.Legal(x) {
		t.Error(s)
	}
}
