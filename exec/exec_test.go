package exec_test

import (
	"slices"
	"strconv"
	"strings"
	"testing"

	"whirligig/act"
	"whirligig/api"
	"whirligig/bits"
	"whirligig/exec"
	"whirligig/queue"
	"whirligig/reading"
	"whirligig/snap"
	"whirligig/table"
	"whirligig/val"
)

// yard is a chart that does, where it enters a, what some lists say; a, and q within it, are active.
func yard(t *testing.T, lists ...string) (table.Table, snap.Snap, [][]act.Act) {
	t.Helper()
	text := "chart c\nvar n 0\nvar m 3\nvar b true\nvar s 'ab'\nstate a\n"
	for _, l := range lists {
		text += "enter " + l + "\n"
	}
	x, ok := reading.Table(text + "state q\nend\nend\nstate z\nend")
	if !ok {
		t.Fatal(lists)
	}
	s := snap.Begin(x)
	s.Status, s.Clock, s.In = snap.Running, 10, bits.Of(1, 2)
	return x, s, x.Rows[1].Enter
}

// times are timers as texts: what each is called, when it is due, and its number.
func times(l []queue.Timer) []string {
	var all []string
	for _, t := range l {
		all = append(all, t.Name+" "+strconv.FormatInt(t.Due, 10)+" "+strconv.Itoa(t.Seq))
	}
	return all
}

// changed tells what of a snapshot isn't as it was.
func changed(x table.Table, was, s snap.Snap) string {
	var l []string
	for i, v := range x.Vars {
		if s.Data[i] != was.Data[i] {
			l = append(l, v.Name+" "+s.Data[i].Show())
		}
	}
	add := func(word string, was, is []string) {
		if !slices.Equal(was, is) {
			l = append(l, word+" "+strings.Join(is, ","))
		}
	}
	add("inner", was.Inner, s.Inner)
	add("outer", was.Outer, s.Outer)
	add("timers", times(was.Timers), times(s.Timers))
	add("seq", []string{strconv.Itoa(was.Seq)}, []string{strconv.Itoa(s.Seq)})
	add("out", was.Out, s.Out)
	s.Data, s.Inner, s.Outer, s.Timers, s.Seq, s.Out = was.Data, was.Inner, was.Outer, was.Timers, was.Seq, was.Out
	if !s.Same(was) {
		l = append(l, "else")
	}
	return strings.Join(l, "; ")
}

// does holds what lists of acts change, with a bar between each two, against what they should.
func does(t *testing.T, lists, want string) {
	t.Helper()
	x, s, l := yard(t, strings.Split(lists, " | ")...)
	if o, e := exec.Do(x, s, l...); e != api.OK || changed(x, s, o) != want {
		t.Errorf("%s: %s, not %s: %d", lists, changed(x, s, o), want, e)
	}
}

// P17.1: set.
func TestSet(t *testing.T) {
	for lists, want := range map[string]string{
		"set n 5":                   "n 5",
		"set m 5":                   "m 5",
		"set m 3":                   "",
		"set n -m":                  "n -3",
		"set n n + 1 ; set n n + 1": "n 2",
		"set n n + 1 | set n n + 1 | set n n * 7":         "n 14",
		"set n m ; set m n + 1":                           "n 3; m 4",
		"set m n ; set n m + 1":                           "n 1; m 0",
		"set n 9 ; set n 0":                               "",
		"set n 9223372036854775807":                       "n 9223372036854775807",
		"set n -9223372036854775807 - 1":                  "n -9223372036854775808",
		"set b not b":                                     "b false",
		"set b in(z)":                                     "b false",
		"set b in(a) and in(q) and not in(z)":             "",
		"set b n < m and s = 'b'":                         "b false",
		"set s s + 'c'":                                   "s 'abc'",
		"set s ''":                                        "s ''",
		"set s s + s ; set s s + s":                       "s 'abababab'",
		"set n 1 ; set m 1 ; set b false ; set s 'it is'": "n 1; m 1; b false; s 'it is'",
		"set s s + '..............................................'": "s 'ab..............................................'",
	} {
		does(t, lists, want)
	}
}

// P17.1: raise, send at once, and log: what is there already stands ahead.
func TestBehind(t *testing.T) {
	for lists, want := range map[string]string{
		"raise e":                       "inner e",
		"raise e.f ; raise e ; raise e": "inner e.f,e,e",
		"raise e | raise f":             "inner e,f",
		"raise error.execution":         "inner error.execution",
		"send e 0":                      "outer e",
		"send e.f 0 ; send e 0":         "outer e.f,e",
		"send e 0 ; raise f":            "inner f; outer e",
		"log n":                         "out 0",
		"log -m ; log m ; log m":        "out -3,3,3",
		"log b ; log not b":             "out true,false",
		"log s ; log ''":                "out 'ab',''",
		"log in(q) ; log in(z)":         "out true,false",
		"log 'n' ; log 'a  b'":          "out 'n','a  b'",
		"log n ; set n 7 ; log n":       "n 7; out 0,7",
		"log n | set n 7 | log n":       "n 7; out 0,7",
	} {
		does(t, lists, want)
	}
	x, s, l := yard(t, "raise e ; send f 0 ; log n ; raise g ; send h 0 ; log m")
	s.Inner, s.Outer, s.Out = []string{"i", "e"}, []string{"o"}, []string{"'x'", "0"}
	if o, e := exec.Do(x, s, l...); e != api.OK || changed(x, s, o) != "inner i,e,e,g; outer o,f,h; out 'x',0,0,3" {
		t.Error(o, e)
	}
}

// P17.1: timers: by when they are due, and then by their numbers; which go by their names.
func TestTimers(t *testing.T) {
	for lists, want := range map[string]string{
		"send e 1":                              "timers e 11 0; seq 1",
		"send e 1048576":                        "timers e 1048586 0; seq 1",
		"send e 5 ; send f 2":                   "timers f 12 1,e 15 0; seq 2",
		"send e 5 ; send f 5 ; send e 5":        "timers e 15 0,f 15 1,e 15 2; seq 3",
		"send e 5 | send f 0 | send g 4":        "outer f; timers g 14 1,e 15 0; seq 2",
		"send e 5 ; cancel e":                   "seq 1",
		"send e 5 ; cancel e ; send f 1":        "timers f 11 1; seq 2",
		"send e 5 ; send f 3 ; cancel e":        "timers f 13 1; seq 2",
		"send e 5 ; send e 3 | cancel e":        "seq 2",
		"cancel e ; send e 5":                   "timers e 15 0; seq 1",
		"cancel e":                              "",
		"send e 5 ; send e.f 5 ; cancel e":      "timers e.f 15 1; seq 2",
		"send e 5 ; send e.f 5 ; cancel e.f":    "timers e 15 0; seq 2",
		"send e 0 ; raise e ; cancel e":         "inner e; outer e",
		"send e 5 ; if n = 0 : cancel e":        "seq 1",
		"send e 5 ; if n = 1 : cancel e":        "timers e 15 0; seq 1",
		"if n = 1 : send e 5 ; send f 7":        "timers f 17 0; seq 1",
		"if 1 / n = 1 : send e 5 | send f 7":    "inner error.execution; timers f 17 0; seq 1",
		"send f 1 ; send e 3 ; set n n / n":     "inner error.execution; timers f 11 0,e 13 1; seq 2",
		"set n 3 ; if n = 3 : send e 3 ; log n": "n 3; timers e 13 0; seq 1; out 3",
	} {
		does(t, lists, want)
	}
	x, s, l := yard(t, "send e 1 ; send f 2 ; cancel g ; send g 1048576")
	s.Clock, s.Seq = api.MaxClock, 41
	s.Timers = []queue.Timer{{Due: 3, Seq: 9, Name: "g"}, {Due: api.MaxClock + 1, Seq: 40, Name: "e"}, {Due: api.MaxClock + 2, Seq: 7, Name: "g"}, {Due: api.MaxClock + 3, Seq: 8, Name: "h"}}
	want := []queue.Timer{{Due: api.MaxClock + 1, Seq: 40, Name: "e"}, {Due: api.MaxClock + 1, Seq: 41, Name: "e"}, {Due: api.MaxClock + 2, Seq: 42, Name: "f"}, {Due: api.MaxClock + 3, Seq: 8, Name: "h"}, {Due: api.MaxClock + api.MaxDelay, Seq: 43, Name: "g"}}
	if o, e := exec.Do(x, s, l...); e != api.OK || !slices.Equal(o.Timers, want) || o.Seq != 44 || o.Clock != api.MaxClock {
		t.Error(o, e)
	}
}

// P17.1: an act is done if its condition is true, by what there is when it comes to it; if it is false, the next one is.
func TestConditions(t *testing.T) {
	for lists, want := range map[string]string{
		"if true : raise e":                                            "inner e",
		"if false : raise e":                                           "",
		"if false : raise e ; raise f":                                 "inner f",
		"if not b : set n 1 ; if b : set n 2":                          "n 2",
		"if n = 0 : set n 1 ; if n = 1 : set n 2 ; if n = 0 : raise e": "n 2",
		"set n 1 ; if n = 1 : raise e":                                 "n 1; inner e",
		"set n 1 | if n = 1 : raise e":                                 "n 1; inner e",
		"if n = 1 : raise e ; set n 1":                                 "n 1",
		"if in(a) : log 1 ; if in(z) : log 2 ; if in(q) : log 3":       "out 1,3",
		"if b : log 'a' ; if b and n > 0 : log 'b'":                    "out 'a'",
		"set b false ; if b : raise e ; if not b : send f 0":           "b false; outer f",
		// What isn't done isn't reckoned, either.
		"if n != 0 : set m m / n ; raise e": "inner e",
		"if n > 0 : log m / n ; raise e":    "inner e",
		"if n != 0 and m / n = 1 : raise e": "",
		"if n = 0 or m / n = 1 : raise e":   "inner e",
	} {
		does(t, lists, want)
	}
}

// P17.1: what tells an error isn't done, nor is what stands behind it in its list; error.execution is raised once, ahead of what the next list does.
func TestErrors(t *testing.T) {
	for lists, want := range map[string]string{
		"set n 1 / 0 ; raise e":                                                 "inner error.execution",
		"set m 1 / n ; raise e":                                                 "inner error.execution",
		"set m 1 % n":                                                           "inner error.execution",
		"log m / n":                                                             "inner error.execution",
		"log m / n ; log m":                                                     "inner error.execution",
		"log m ; log m / n ; log m":                                             "inner error.execution; out 3",
		"set n 9223372036854775807 + 1":                                         "inner error.execution",
		"set n 9223372036854775807 * m ; send e 0":                              "inner error.execution",
		"if m / n = 1 : raise e ; raise f":                                      "inner error.execution",
		"if not (m / n = 1) : raise e":                                          "inner error.execution",
		"if m / n = 1 : send e 0 ; send f 5":                                    "inner error.execution",
		"if m / n = 1 : set n 5":                                                "inner error.execution",
		"if m / n = 1 : set n m / n":                                            "inner error.execution",
		"if m / n = 1 : cancel e ; log n":                                       "inner error.execution",
		"if b : set m m / n ; raise f":                                          "inner error.execution",
		"raise e ; set m m / n ; raise f":                                       "inner e,error.execution",
		"raise e ; set m m / n ; raise f | raise g":                             "inner e,error.execution,g",
		"set m m / n | set m m / n | set m m / n":                               "inner error.execution,error.execution,error.execution",
		"set m m / n ; set m m / n":                                             "inner error.execution",
		"set m m / n | set n 1 | set m 8 / n":                                   "n 1; m 8; inner error.execution",
		"set n 1 ; set m m / 0 ; set n 2":                                       "n 1; inner error.execution",
		"set n 1 ; set m m / 0 | set n n + 2":                                   "n 3; inner error.execution",
		"send e 0 ; log s + s ; log n / n | log n":                              "inner error.execution; outer e; out 'abab',0",
		"set s s + '...............................................' ; raise e": "inner error.execution",
		"log s + '...............................................'":             "inner error.execution",
	} {
		does(t, lists, want)
	}
}

// P17.1: no lists, and lists without acts, change nothing; the lists of one are done as one behind the other.
func TestLists(t *testing.T) {
	x, s, l := yard(t, "raise e ; log n / n ; log m", "raise f")
	s.Inner, s.Out = []string{"i"}, []string{"'x'"}
	for _, none := range [][][]act.Act{nil, {}, {nil}, {nil, {}, nil}} {
		if o, e := exec.Do(x, s, none...); e != api.OK || changed(x, s, o) != "" {
			t.Error(o, e)
		}
	}
	if o, e := exec.Do(x, s, nil, l[0], nil, l[1], []act.Act{}); e != api.OK || changed(x, s, o) != "inner i,e,error.execution,f" {
		t.Error(o, e)
	}
	// In which order they are handed in, in that they are done, and as often.
	if o, e := exec.Do(x, s, l[1], l[0], l[1]); e != api.OK || changed(x, s, o) != "inner i,f,e,error.execution,f" {
		t.Error(o, e)
	}
	// As one list what stands behind the error isn't done.
	if o, e := exec.Do(x, s, slices.Concat(l...)); e != api.OK || changed(x, s, o) != "inner i,e,error.execution" {
		t.Error(o, e)
	}
}

// many is an act, so many times.
func many(n int, a string) string { return strings.Join(slices.Repeat([]string{a}, n), " ; ") }

// P17.1: there is room for eight in each queue, and among the timers; for a ninth there is none, and all is left as it was.
func TestRoom(t *testing.T) {
	eight := strings.Join(slices.Repeat([]string{"e"}, 8), ",")
	does(t, many(8, "raise e"), "inner "+eight)
	does(t, many(8, "send e 0"), "outer "+eight)
	does(t, many(8, "send e 0")+" | "+many(8, "raise e"), "inner "+eight+"; outer "+eight)
	does(t, many(8, "send e 1"), "timers e 11 0,e 11 1,e 11 2,e 11 3,e 11 4,e 11 5,e 11 6,e 11 7; seq 8")
	does(t, many(8, "send e 1")+" | cancel e ; send f 2", "timers f 12 8; seq 9")
	does(t, many(7, "raise e")+" ; log n / n", "inner e,e,e,e,e,e,e,error.execution")
	does(t, many(8, "raise e")+" | if n = 1 : raise f ; log n", "inner "+eight+"; out 0")
	does(t, many(8, "send e 1")+" | if n = 1 : send f 1 ; send f 0", "outer f; timers e 11 0,e 11 1,e 11 2,e 11 3,e 11 4,e 11 5,e 11 6,e 11 7; seq 8")
	does(t, many(8, "log n / n")+" | "+many(8, "log n"), "inner error.execution; out 0,0,0,0,0,0,0,0")
	for _, lists := range []string{
		many(8, "raise e") + " | raise e",
		many(8, "raise e") + " | raise e | set n 1",
		many(8, "raise e") + " | set n 1 ; log n ; send f 0 ; send g 1 ; raise e",
		many(8, "send e 0") + " | set n 1 ; log n ; raise f ; send g 1 ; send e 0",
		many(8, "send e 1") + " | set n 1 ; log n ; raise f ; send g 0 ; send e 1",
		many(8, "send e 1") + " | send f 1 ; cancel e",
		many(8, "send e 1") + " | if n = 0 : send f 1048576",
		many(8, "send e 1") + " | cancel f ; send f 1",
		// For error.execution there must be room, too.
		many(8, "raise e") + " | log n / n",
		many(8, "raise e") + " | set n 1 ; if 1 / 0 = 1 : log n ; log n",
		many(4, "raise e") + " | " + many(4, "raise e") + " | log n ; set n n / n | raise e",
		strings.Repeat("log 1 / n | ", 7) + "raise e ; raise e",
		// It isn't as if what didn't find room weren't there.
		many(8, "raise e") + " | raise e | log n",
	} {
		x, s, l := yard(t, strings.Split(lists, " | ")...)
		if o, e := exec.Do(x, s, l...); e != api.ErrFull || changed(x, s, o) != "" {
			t.Errorf("%s: %s: %d", lists, changed(x, s, o), e)
		}
	}
}

// P17.1: what is in the queues and timers takes room, and is left as it was, with all else, if there is no more.
func TestNoRoom(t *testing.T) {
	names := []string{"a", "b", "c", "d", "e", "f", "g", "h"}
	x, s, l := yard(t, "set n 1 ; log n ; raise e", "set n 1 ; log n ; send e 0", "set n 1 ; log n ; send e 7", "set n 1 ; log n ; log n / 0", "cancel e ; set n 1 ; send e 7")
	s.Moves, s.Seq, s.Last = 5, 12, snap.Last{Event: "e", Taken: []int{1}, Entered: bits.Of(1), Out: []string{"'x'"}}
	s.Data = []val.Value{val.Of(7), val.Of(0), val.Truth(false), val.Word("s")}
	for inner := range 9 {
		for outer := range 9 {
			for timers := range 9 {
				s.Inner, s.Outer, s.Timers = names[:inner], names[:outer], nil
				for i, name := range names[:timers] {
					s.Timers = append(s.Timers, queue.Timer{Due: int64(11 + i), Seq: i, Name: name})
				}
				for i, full := range []bool{inner == 8, outer == 8, timers == 8, inner == 8, false} {
					o, e := exec.Do(x, s, l[i])
					if full && (e != api.ErrFull || changed(x, s, o) != "") || !full && (e != api.OK || o.Data[0] != val.Of(1)) {
						t.Error(inner, outer, timers, i, o, e)
					}
				}
			}
		}
	}
}

// P17.2: names are put behind those of the chart itself, in order, all or none; all else stays.
func TestRaise(t *testing.T) {
	x, s, _ := yard(t)
	s.Outer, s.Timers, s.Seq, s.Out = []string{"o"}, []queue.Timer{{Due: 3, Seq: 1, Name: "e"}}, 2, []string{"1"}
	names := strings.Fields("a b b d.e error.execution f g * a 1")
	for inner := range 9 {
		for more := range len(names) + 1 {
			// The Status plays no part.
			s.Status = (inner + more) % 5
			s.Inner = slices.Repeat([]string{"i"}, inner)
			want, full := "inner "+strings.Join(slices.Concat(s.Inner, names[:more]), ","), inner+more > 8
			if full || more == 0 {
				want = ""
			}
			if o, e := exec.Raise(s, names[:more]...); (e == api.ErrFull) != full || e != api.OK && e != api.ErrFull || changed(x, s, o) != want {
				t.Error(inner, more, o, e)
			}
		}
	}
	if o, e := exec.Raise(snap.Snap{}, "", " ", "\xff"); e != api.OK || !slices.Equal(o.Inner, []string{"", " ", "\xff"}) {
		t.Error(o, e)
	}
	if o, e := exec.Raise(snap.Snap{}); e != api.OK || !o.Same(snap.Snap{}) {
		t.Error(o, e)
	}
}
