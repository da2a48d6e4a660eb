package snap_test

import (
	"math"
	"slices"
	"strings"
	"testing"

	"whirligig/bits"
	"whirligig/dice"
	"whirligig/queue"
	"whirligig/snap"
	"whirligig/val"
)

// tells holds a snapshot's lines against what they should be; a bar between blanks parts them.
func tells(t *testing.T, text string, s snap.Snap, want string) {
	t.Helper()
	x, _ := made(t, text)
	if l := s.Lines(x); !slices.Equal(l, strings.Split(want, " | ")) {
		t.Errorf("%q\nnot\n%q", l, want)
	}
}

// P14.2: what there is of a small chart, each part by itself, and all together.
func TestLines(t *testing.T) {
	const small = "chart c | state a | end | state b | deep h d | state d | end | end"
	past := make([]bits.Set, 5)
	for _, x := range []struct {
		s    snap.Snap
		want string
	}{
		{snap.Snap{Status: snap.Fresh}, "fresh moves 0 clock 0 | in | inner | outer"},
		{snap.Snap{Status: snap.Running}, "running moves 0 clock 0 | in | inner | outer"},
		{snap.Snap{Status: snap.Done}, "done moves 0 clock 0 | in | inner | outer"},
		{snap.Snap{Status: snap.Halted}, "halted moves 0 clock 0 | in | inner | outer"},
		{snap.Snap{Status: snap.Fresh, Moves: 512, Clock: 1 << 40, Seq: 77}, "fresh moves 512 clock 1099511627776 | in | inner | outer"},
		{snap.Snap{Status: snap.Fresh, Moves: math.MaxInt, Clock: math.MaxInt64}, "fresh moves 9223372036854775807 clock 9223372036854775807 | in | inner | outer"},
		{snap.Snap{Status: snap.Running, In: bits.Of(1)}, "running moves 0 clock 0 | in a | inner | outer"},
		{snap.Snap{Status: snap.Running, In: bits.Of(4, 2)}, "running moves 0 clock 0 | in b d | inner | outer"},
		{snap.Snap{Status: snap.Running, Inner: []string{"b", "a", "b"}}, "running moves 0 clock 0 | in | inner b a b | outer"},
		{snap.Snap{Status: snap.Running, Outer: []string{"b", "a.b"}}, "running moves 0 clock 0 | in | inner | outer b a.b"},
		{snap.Snap{Status: snap.Fresh, Timers: []queue.Timer{{Due: 9, Seq: 3, Name: "e"}, {Due: 9, Seq: 4, Name: "e"}, {Due: 1 << 40, Seq: 1, Name: "d"}}}, "fresh moves 0 clock 0 | in | inner | outer | timer e 9 | timer e 9 | timer d 1099511627776"},
		{snap.Snap{Status: snap.Fresh, Past: past}, "fresh moves 0 clock 0 | in | inner | outer"},
		{snap.Snap{Status: snap.Fresh, Past: []bits.Set{3: bits.Of(4), 4: 0}}, "fresh moves 0 clock 0 | in | inner | outer | past h d"},
		{snap.Snap{Status: snap.Fresh, Last: snap.Last{Event: "a.b"}}, "fresh moves 0 clock 0 | in | inner | outer | event a.b"},
		{snap.Snap{Status: snap.Fresh, Last: snap.Last{Taken: []int{95, 0, 10}}}, "fresh moves 0 clock 0 | in | inner | outer | taken 95 0 10"},
		{snap.Snap{Status: snap.Fresh, Last: snap.Last{Taken: []int{0}}}, "fresh moves 0 clock 0 | in | inner | outer | taken 0"},
		{snap.Snap{Status: snap.Fresh, Last: snap.Last{Entered: bits.Of(4, 1)}}, "fresh moves 0 clock 0 | in | inner | outer | entered a d"},
		{snap.Snap{Status: snap.Fresh, Last: snap.Last{Out: []string{"'b a'", "-1", "true"}}}, "fresh moves 0 clock 0 | in | inner | outer | out 'b a' | out -1 | out true"},
	} {
		tells(t, small, x.s, x.want)
	}
	x, _ := made(t, door)
	s := snap.Begin(x)
	tells(t, door, s, "fresh moves 0 clock 0 | in | var n -3 | var who 'no one' | var ok true | inner | outer")
	s.Status, s.Moves, s.Clock, s.Seq, s.In = snap.Halted, 12, 100, 3, bits.Of(4, 5, 7, 8, 9)
	s.Past[3], s.Past[6] = bits.Of(2), bits.Of(7)
	s.Data = []val.Value{val.Of(math.MinInt64), val.Word(""), val.Truth(false)}
	s.Inner, s.Outer = []string{"error.execution"}, []string{"knock", "knock"}
	s.Timers = []queue.Timer{{Due: 101, Seq: 2, Name: "late"}}
	s.Last = snap.Last{Event: "off", Taken: []int{1}, Entered: bits.Of(10, 2), Out: []string{"'out'"}}
	tells(t, door, s, "halted moves 12 clock 100 | in open left wide right door | var n -9223372036854775808 | var who '' | var ok false | inner error.execution | outer knock knock | timer late 101 | past again calm | past back wide | event off | taken 1 | entered calm gone | out 'out'")
}

// P14.2: lines of charts and snapshots made by chance.
func TestLinesAny(t *testing.T) {
	d := dice.Dice(7)
	words := map[string]int{}
	for _, text := range charts(7, 100, 48) {
		x, m := made(t, text)
		for range 30 {
			s := m.chance(&d)
			l := s.Lines(x)
			if want := m.lines(s); !slices.Equal(l, want) {
				t.Fatalf("%s:\n%q\nnot\n%q", text, l, want)
			}
			for _, one := range l {
				word, _, _ := strings.Cut(one, " ")
				words[word]++
			}
		}
	}
	for _, word := range []string{"fresh", "running", "done", "halted", "in", "var", "inner", "outer", "timer", "past", "event", "taken", "entered", "out"} {
		if words[word] < 300 {
			t.Error(word, words[word])
		}
	}
}
