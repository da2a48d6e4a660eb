package queue_test

import (
	"math"
	"slices"
	"testing"

	"whirligig/api"
	"whirligig/dice"
	"whirligig/queue"
)

// P13.1
func TestPush(t *testing.T) {
	six := []string{"a", "b", "c", "d", "e", "f"}
	for _, x := range []struct {
		l, more, want []string
		e             api.Errno
	}{
		{nil, nil, nil, api.OK},
		{nil, []string{"a"}, []string{"a"}, api.OK},
		{[]string{"a"}, nil, []string{"a"}, api.OK},
		{[]string{"a", "b"}, []string{"c", "d"}, []string{"a", "b", "c", "d"}, api.OK},
		{[]string{"b", "b"}, []string{"a", "b"}, []string{"b", "b", "a", "b"}, api.OK},
		{[]string{""}, []string{"", "*", "\xff"}, []string{"", "", "*", "\xff"}, api.OK},
		// Up to eight there is room.
		{six, []string{"g"}, []string{"a", "b", "c", "d", "e", "f", "g"}, api.OK},
		{six, []string{"g", "h"}, []string{"a", "b", "c", "d", "e", "f", "g", "h"}, api.OK},
		{nil, append(six, "g", "h"), []string{"a", "b", "c", "d", "e", "f", "g", "h"}, api.OK},
		{append(six, "g", "h"), nil, []string{"a", "b", "c", "d", "e", "f", "g", "h"}, api.OK},
		// All or none, though one of them would have room.
		{six, []string{"g", "h", "i"}, six, api.ErrFull},
		{append(six, "g"), []string{"h", "i"}, append(six, "g"), api.ErrFull},
		{append(six, "g", "h"), []string{"i"}, append(six, "g", "h"), api.ErrFull},
		{nil, append(six, "g", "h", "i"), nil, api.ErrFull},
		{append(six, "g", "h", "i"), nil, append(six, "g", "h", "i"), api.ErrFull},
	} {
		if got, e := queue.Push(x.l, x.more...); e != x.e || !slices.Equal(got, x.want) {
			t.Errorf("%q %q: %q %d", x.l, x.more, got, e)
		}
	}
	if l, e := queue.Push([]string{"a"}, "b", "c"); e != api.OK || !slices.Equal(l, []string{"a", "b", "c"}) {
		t.Error(l, e)
	}
}

// P13.1: all lengths, up to and past the room.
func TestPushAll(t *testing.T) {
	d := dice.Dice(1)
	full := 0
	for n := range 13 {
		for m := range 13 {
			for range 20 {
				l, more := someNames(&d, n), someNames(&d, m)
				want, e := plainPush(l, more)
				if got, f := queue.Push(l, more...); f != e || !slices.Equal(got, want) {
					t.Fatalf("%q %q: %q %d", l, more, got, f)
				}
				if e == api.ErrFull {
					full++
				}
			}
		}
	}
	if full != (169-45)*20 {
		t.Error(full)
	}
}

// P13.1
func TestPop(t *testing.T) {
	for _, x := range []struct {
		l     []string
		first string
		rest  []string
		ok    bool
	}{
		{nil, "", nil, false},
		{[]string{}, "", nil, false},
		{[]string{"a"}, "a", nil, true},
		{[]string{""}, "", nil, true},
		{[]string{"", "a"}, "", []string{"a"}, true},
		{[]string{"a", "b", "a"}, "a", []string{"b", "a"}, true},
		{[]string{"1", "2", "3", "4", "5", "6", "7", "8"}, "1", []string{"2", "3", "4", "5", "6", "7", "8"}, true},
		// One that is longer than there is room for gets shorter, too.
		{[]string{"1", "2", "3", "4", "5", "6", "7", "8", "9", "10"}, "1", []string{"2", "3", "4", "5", "6", "7", "8", "9", "10"}, true},
	} {
		if s, rest, ok := queue.Pop(x.l); s != x.first || !slices.Equal(rest, x.rest) || ok != x.ok {
			t.Errorf("%q: %q %q %v", x.l, s, rest, ok)
		}
	}
}

// P13.1: names come out in the order in which they came, however many come and go.
func TestPushPop(t *testing.T) {
	d := dice.Dice(2)
	var l, all []string
	taken, full, none := 0, 0, 0
	for range 30000 {
		if d.Below(2) == 0 {
			s, rest, ok := queue.Pop(l)
			if ok != (taken < len(all)) || !ok && s != "" || ok && s != all[taken] {
				t.Fatalf("%q: %q %v", l, s, ok)
			}
			if ok {
				taken++
			} else {
				none++
			}
			l = rest
		} else {
			more := someNames(&d, d.Below(3))
			next, e := queue.Push(l, more...)
			if (e == api.ErrFull) != (len(all)-taken+len(more) > 8) {
				t.Fatalf("%q %q: %d", l, more, e)
			}
			if e == api.OK {
				all = append(all, more...)
			} else {
				full++
			}
			l = next
		}
		if !slices.Equal(l, all[taken:]) {
			t.Fatalf("%q, not %q", l, all[taken:])
		}
	}
	if full < 1000 || none < 1000 {
		t.Error(full, none)
	}
}

// P13.2
func TestArm(t *testing.T) {
	l := []queue.Timer{{3, 2, "b"}, {5, 0, "c"}, {5, 2, "a"}, {9, 1, "a"}}
	for _, x := range []struct {
		t     queue.Timer
		place int
	}{
		{queue.Timer{Due: 2, Seq: 9, Name: "z"}, 0},
		{queue.Timer{Due: 3, Seq: 1, Name: "z"}, 0},
		{queue.Timer{Due: 3, Seq: 2, Name: "a"}, 1}, // as the first one is but for the name: behind it
		{queue.Timer{Due: 3, Seq: 2, Name: "b"}, 1},
		{queue.Timer{Due: 3, Seq: 3, Name: "a"}, 1},
		{queue.Timer{Due: 4, Seq: 0, Name: "a"}, 1},
		{queue.Timer{Due: 5, Seq: -1, Name: "z"}, 1},
		{queue.Timer{Due: 5, Seq: 0, Name: "a"}, 2},
		{queue.Timer{Due: 5, Seq: 1, Name: "z"}, 2},
		{queue.Timer{Due: 5, Seq: 2, Name: ""}, 3},
		{queue.Timer{Due: 8, Seq: math.MaxInt, Name: "a"}, 3},
		{queue.Timer{Due: 9, Seq: 0, Name: "a"}, 3},
		{queue.Timer{Due: 9, Seq: 1, Name: "a"}, 4},
		{queue.Timer{Due: 9, Seq: 2, Name: ""}, 4},
		{queue.Timer{Due: math.MaxInt64, Seq: math.MinInt, Name: ""}, 4},
		{queue.Timer{Due: math.MinInt64, Seq: math.MaxInt, Name: "z"}, 0},
		{queue.Timer{}, 0},
	} {
		want := slices.Insert(slices.Clone(l), x.place, x.t)
		if got, e := queue.Arm(l, x.t); e != api.OK || !slices.Equal(got, want) {
			t.Errorf("%v: %v %d", x.t, got, e)
		}
	}
	if got, e := queue.Arm(nil, queue.Timer{Due: -1, Seq: -2, Name: "a"}); e != api.OK || !slices.Equal(got, []queue.Timer{{-1, -2, "a"}}) {
		t.Error(got, e)
	}
}

// P13.2: there is room for eight; a ninth one leaves all as it is.
func TestArmFull(t *testing.T) {
	var l []queue.Timer
	for i := range 8 {
		next, e := queue.Arm(l, queue.Timer{Due: 10, Seq: i, Name: "a"})
		if e != api.OK || len(next) != i+1 {
			t.Fatal(i, next, e)
		}
		l = next
	}
	for _, one := range []queue.Timer{{}, {10, 3, "b"}, {11, 0, "a"}, l[0]} {
		if got, e := queue.Arm(l, one); e != api.ErrFull || !slices.Equal(got, l) {
			t.Error(one, got, e)
		}
	}
	nine := append(slices.Clone(l), queue.Timer{Due: 20, Name: "x"})
	if got, e := queue.Arm(nine, queue.Timer{}); e != api.ErrFull || !slices.Equal(got, nine) {
		t.Error(got, e)
	}
	// Behind one that was taken away there is room again.
	l = queue.Cancel(append(l[:7], queue.Timer{Due: 20, Name: "x"}), "x")
	if got, e := queue.Arm(l, queue.Timer{Due: 10, Seq: 6, Name: "b"}); e != api.OK || len(got) != 8 || got[7].Name != "b" {
		t.Error(got, e)
	}
}

// P13.2: all rows of up to five timers, each put among those ahead of it.
func TestArmAll(t *testing.T) {
	kinds := []queue.Timer{{1, 0, ""}, {1, 1, ""}, {2, 0, ""}, {2, 1, ""}, {math.MinInt64, 1, ""}, {math.MaxInt64, 0, ""}}
	rows := 0
	var grow func(came, l []queue.Timer)
	grow = func(came, l []queue.Timer) {
		rows++
		if want := inOrder(came); !slices.Equal(l, want) {
			t.Fatal(came, l, want)
		}
		if len(came) == 5 {
			return
		}
		for _, k := range kinds {
			k.Name = []string{"e", "d", "c", "b", "a"}[len(came)]
			next, e := queue.Arm(l, k)
			if e != api.OK {
				t.Fatal(l, k, e)
			}
			grow(append(slices.Clone(came), k), next)
		}
	}
	grow(nil, nil)
	if rows != 1+6+36+216+1296+7776 {
		t.Error(rows)
	}
}

// P13.2
func TestCancel(t *testing.T) {
	l := []queue.Timer{{3, 2, "a"}, {5, 0, "b"}, {5, 0, "a"}, {5, 1, ""}, {9, 3, "a.b"}, {9, 4, "a"}}
	for name, places := range map[string][]int{
		"a":   {1, 3, 4},
		"b":   {0, 2, 3, 4, 5},
		"a.b": {0, 1, 2, 3, 5},
		"":    {0, 1, 2, 4, 5},
		"c":   {0, 1, 2, 3, 4, 5},
		"*":   {0, 1, 2, 3, 4, 5}, // a name as others are: none is called for by it
		"A":   {0, 1, 2, 3, 4, 5},
	} {
		var want []queue.Timer
		for _, i := range places {
			want = append(want, l[i])
		}
		if got := queue.Cancel(l, name); !slices.Equal(got, want) {
			t.Errorf("%q: %v", name, got)
		}
	}
	if got := queue.Cancel(nil, "a"); len(got) != 0 {
		t.Error(got)
	}
	if got := queue.Cancel([]queue.Timer{{1, 1, "a"}, {1, 1, "a"}}, "a"); len(got) != 0 {
		t.Error(got)
	}
}

// P13.2
func TestDue(t *testing.T) {
	l := []queue.Timer{{-4, 7, "z"}, {3, 2, "b"}, {5, 0, "d"}, {5, 0, "c"}, {5, 1, "b"}, {api.MaxClock, 0, "a"}}
	names := []string{"z", "b", "d", "c", "b", "a"}
	for now, n := range map[int64]int{
		math.MinInt64:    0,
		-5:               0,
		-4:               1,
		0:                1,
		2:                1,
		3:                2,
		4:                2,
		5:                5,
		6:                5,
		api.MaxClock - 1: 5,
		api.MaxClock:     6,
		math.MaxInt64:    6,
	} {
		if got, rest := queue.Due(l, now); !slices.Equal(got, names[:n]) || !slices.Equal(rest, l[n:]) {
			t.Error(now, got, rest)
		}
	}
	two := []queue.Timer{{3, 0, "a"}, {5, 1, "b"}}
	if got, rest := queue.Due(two, 4); !slices.Equal(got, []string{"a"}) || !slices.Equal(rest, two[1:]) {
		t.Error(got, rest)
	}
	ends := []queue.Timer{{math.MinInt64, 0, "a"}, {math.MaxInt64, 0, "b"}}
	if got, rest := queue.Due(ends, math.MinInt64); !slices.Equal(got, []string{"a"}) || !slices.Equal(rest, ends[1:]) {
		t.Error(got, rest)
	}
	if got, rest := queue.Due(ends, math.MaxInt64); !slices.Equal(got, []string{"a", "b"}) || len(rest) != 0 {
		t.Error(got, rest)
	}
	if got, rest := queue.Due(nil, 0); len(got) != 0 || len(rest) != 0 {
		t.Error(got, rest)
	}
}

// P13.2: timers made by chance, up to and past the room.
func TestTimers(t *testing.T) {
	d := dice.Dice(3)
	full, gone, due := 0, 0, 0
	for range 60000 {
		l := someTimers(&d, d.Below(12))
		one, now := timer(&d), dice.One(&d, times())
		want, e := plainArm(l, one)
		if got, f := queue.Arm(l, one); f != e || !slices.Equal(got, want) {
			t.Fatal(l, one, got, f)
		}
		left := plainCancel(l, one.Name)
		if got := queue.Cancel(l, one.Name); !slices.Equal(got, left) {
			t.Fatal(l, one.Name, got)
		}
		names, others := plainDue(l, now)
		if got, rest := queue.Due(l, now); !slices.Equal(got, names) || !slices.Equal(rest, others) {
			t.Fatal(l, now, got, rest)
		}
		if e == api.ErrFull {
			full++
		}
		if len(left) < len(l) {
			gone++
		}
		if len(names) > 0 && len(others) > 0 {
			due++
		}
	}
	if full < 10000 || gone < 10000 || due < 10000 {
		t.Error(full, gone, due)
	}
}

// P13.1, P13.2: of timers that are in no order only that the calls end.
func TestNoOrder(t *testing.T) {
	d := dice.Dice(4)
	for range 2000 {
		var l []queue.Timer
		for range d.Below(12) {
			l = append(l, timer(&d))
		}
		one := timer(&d)
		queue.Arm(l, one)
		queue.Cancel(l, one.Name)
		queue.Due(l, one.Due)
	}
}

// P13.1, P13.2: long lists, past all room.
func TestLong(t *testing.T) {
	names, timers := make([]string, 100000), make([]queue.Timer, 100000)
	for i := range timers {
		timers[i].Due = int64(i)
	}
	if l, e := queue.Push(names, names...); e != api.ErrFull || len(l) != len(names) {
		t.Error(len(l), e)
	}
	if _, l, ok := queue.Pop(names); !ok || len(l) != len(names)-1 {
		t.Error(len(l), ok)
	}
	if l, e := queue.Arm(timers, queue.Timer{}); e != api.ErrFull || !slices.Equal(l, timers) {
		t.Error(len(l), e)
	}
	if l := queue.Cancel(timers, "a"); !slices.Equal(l, timers) {
		t.Error(len(l))
	}
	if l, rest := queue.Due(timers, 999); len(l) != 1000 || !slices.Equal(rest, timers[1000:]) {
		t.Error(len(l), len(rest))
	}
}
