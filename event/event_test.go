package event_test

import (
	"slices"
	"strings"
	"testing"

	"whirligig/api"
	"whirligig/dice"
	"whirligig/event"
	"whirligig/tok"
)

func TestTexts(t *testing.T) {
	if event.Error != "error.execution" || event.Any != "*" {
		t.Error(event.Error, event.Any)
	}
}

// P12.1
func TestDone(t *testing.T) {
	for state, want := range map[string]string{
		"s1":       "done.state.s1",
		"a":        "done.state.a",
		"":         "done.state.",
		".":        "done.state..",
		"a.b":      "done.state.a.b",
		" a ":      "done.state. a ",
		"*":        "done.state.*",
		"\x00\xff": "done.state.\x00\xff",
	} {
		if got := event.Done(state); got != want {
			t.Errorf("%q, not %q", got, want)
		}
	}
	name := strings.Repeat("a", api.MaxName)
	if s := event.Done(name); s != "done.state."+name || !tok.Event(s) {
		t.Error(s)
	}
}

// P12.1
func TestParts(t *testing.T) {
	for name, want := range map[string][]string{
		"e":            {"e"},
		"e.a":          {"e", "a"},
		"e.a.b":        {"e", "a", "b"},
		"a.b..c":       {"a", "b", "", "c"},
		"":             {""},
		".":            {"", ""},
		"..":           {"", "", ""},
		".a":           {"", "a"},
		"a.":           {"a", ""},
		"*":            {"*"},
		"a.*":          {"a", "*"},
		" a . b ":      {" a ", " b "},
		"a,b":          {"a,b"},
		"\xff.\x00.é":  {"\xff", "\x00", "é"},
		event.Error:    {"error", "execution"},
		"done.state.s": {"done", "state", "s"},
	} {
		if got := event.Parts(name); !slices.Equal(got, want) {
			t.Errorf("%q: %q", name, got)
		}
	}
	long := strings.Repeat("ab.", 100000)
	if l := event.Parts(long); len(l) != 100001 || l[0] != "ab" || l[99999] != "ab" || l[100000] != "" {
		t.Error(len(l))
	}
}

// P12.1
func TestJoin(t *testing.T) {
	for want, parts := range map[string][]string{
		"a":           {"a"},
		"a.b":         {"a", "b"},
		"b.a":         {"b", "a"},
		"a.b.c":       {"a", "b", "c"},
		"a.b..c.d":    {"a.b", "", "c.d"},
		".":           {"", ""},
		"..":          {".", ""},
		".a":          {"", "a"},
		"a.":          {"a", ""},
		" a . *.\xff": {" a ", " *", "\xff"},
	} {
		if got := event.Join(parts...); got != want {
			t.Errorf("%q, not %q", got, want)
		}
	}
	if event.Join() != "" || event.Join(nil...) != "" || event.Join("") != "" {
		t.Error("of none")
	}
}

// P12.1: all names of a few bytes, and longer ones, are their parts, and these the names.
func TestPartsJoin(t *testing.T) {
	l := all(6, "ab.*")
	for d := dice.Dice(1); len(l) < 20000; {
		l = append(l, longer(&d))
	}
	for _, e := range l {
		if got := event.Parts(e.name); !slices.Equal(got, e.parts) {
			t.Fatalf("%q: %q", e.name, got)
		}
		if got := event.Join(e.parts...); got != e.name {
			t.Fatalf("%q: %q", e.parts, got)
		}
	}
}

// P12.1: each list of parts is new memory, its spare room, too; what is joined stays as it is.
func TestMemory(t *testing.T) {
	a, b := event.Parts("x.y.z"), event.Parts("x.y.z")
	a[1] = "q"
	a = append(a[:1], "r", "s", "t")
	if !slices.Equal(b, []string{"x", "y", "z"}) || !slices.Equal(event.Parts("x.y.z"), b) || a[3] != "t" {
		t.Error(a, b)
	}
	room := []string{"b", "*", "a", "c", "d"}
	was := slices.Clone(room)
	if event.Join(room[:3]...) != "b.*.a" || event.First("a", room[:3]...) != 1 || !slices.Equal(room, was) {
		t.Error(room)
	}
}

// P12.2
func TestMatch(t *testing.T) {
	for _, x := range []struct {
		called, name string
		want         bool
	}{
		{"e", "e.a", true},
		{"e.a", "e.a", true},
		{"*", "e.a", true},
		{"e.a.b", "e.a", false},
		{"e", "e.a.b", true},
		{"e.a", "e.a.b", true},
		{"e", "ea", false},
		{"e", "ea.e", false},
		{"e", "a.e", false},
		{"a", "e.a", false},
		{"e.a", "e.ab", false},
		{"e.a", "e.b", false},
		{"e", "E", false},
		{"error", event.Error, true},
		{"error.exec", event.Error, false},
		{"done.state", event.Done("s"), true},
		{"done.state.s", event.Done("s"), true},
		{"done.state.s", event.Done("s2"), false},
		// All that has a name is called for by *, and nothing by an empty name.
		{"*", "*", true},
		{"*", "*.a", true},
		{"*", ".", true},
		{"*", " ", true},
		{"*", "\x00", true},
		{"*", "", false},
		{"", "", false},
		{"", "x", false},
		{"", ".", false},
		{"", ".a", false},
		{"", "*", false},
		{"e", "", false},
		{".", "", false},
		// A star beside others is a byte as others are.
		{"e.*", "e.a", false},
		{"e.*", "e.*", true},
		{"*.a", "e.a", false},
		{"*.a", "*.a.b", true},
		{"**", "e", false},
		{" *", "e", false},
		{"e*", "ea", false},
		{"e", "*", false},
		// It begins with the name, and a dot behind that.
		{"e.", "e.a", false},
		{"e.", "e", false},
		{"e", "e.", true},
		{"e.", "e.", true},
		{"e.", "e..", true},
		{"e.", "e..a", true},
		{"e", "e..a", true},
		{".", ".", true},
		{".", "..", true},
		{".", ".a", false},
		{".a", ".a.b", true},
		{"e ", "e", false},
		{"e", "e .a", false},
		{"e", " e", false},
		{"\xff", "\xff.\xfe", true},
		{"\xff", "\xff\xfe", false},
		{"\xff", "\xfe", false},
	} {
		if event.Match(x.called, x.name) != x.want {
			t.Errorf("%q %q: not %v", x.called, x.name, x.want)
		}
	}
}

// P12.2: all names of a few bytes, each called for by each.
func TestMatchAll(t *testing.T) {
	l := all(5, "ab.*")
	if len(l) != 1+4+16+64+256+1024 {
		t.Fatal(len(l))
	}
	for _, e := range l {
		for _, n := range l {
			if event.Match(e.name, n.name) != e.calls(n) {
				t.Fatalf("%q %q", e.name, n.name)
			}
		}
	}
}

// P12.2: longer names.
func TestMatchLonger(t *testing.T) {
	called := map[bool]int{}
	for d := dice.Dice(2); called[true]+called[false] < 60000; {
		n := longer(&d)
		e := beside(&d, n)
		if d.Below(2) == 0 {
			e, n = n, e
		}
		if event.Match(e.name, n.name) != e.calls(n) {
			t.Fatalf("%q %q", e.name, n.name)
		}
		called[e.calls(n)]++
	}
	if called[true] < 10000 || called[false] < 10000 {
		t.Error(called)
	}
	long := strings.Repeat("a.", 100000)
	if !event.Match(long+"a", long+"a.b") || event.Match(long+"a", long+"ab") || event.Match(long+"a", long+"b.a") {
		t.Error("long")
	}
}

// P12.2
func TestFirst(t *testing.T) {
	for _, x := range []struct {
		name   string
		called []string
		want   int
	}{
		{"a.b", []string{"b", "a", "*"}, 1},
		{"a.b", []string{"*", "a", "a.b"}, 0},
		{"a.b", []string{"a.b.c", "ab", "", "b", "a.b"}, 4},
		{"a.b", []string{"", "", "*", "*"}, 2},
		{"a", []string{"a", "a"}, 0},
		{"a", []string{"a.b", "b", ""}, -1},
		{"a", []string{""}, -1},
		{"a", nil, -1},
		{"", []string{"*", "", "a", "."}, -1},
		{"", nil, -1},
	} {
		if got := event.First(x.name, x.called...); got != x.want {
			t.Errorf("%q %q: %d, not %d", x.name, x.called, got, x.want)
		}
	}
	if event.First("a") != -1 {
		t.Error("of none")
	}
	many := slices.Repeat([]string{"b", "a.b", ""}, 50000)
	if event.First("a", many...) != -1 || event.First("a", append(many, "a", "*")...) != len(many) {
		t.Error("of many")
	}
}

// P12.2: names of a few bytes and longer ones, called for by one of some.
func TestFirstOfSome(t *testing.T) {
	d, short := dice.Dice(3), all(3, "ab.*")
	places := map[int]int{}
	for range 30000 {
		n := dice.One(&d, short)
		if d.Below(2) == 0 {
			n = longer(&d)
		}
		var some []named
		var called []string
		for range d.Below(6) {
			e := dice.One(&d, short)
			if d.Below(2) == 0 {
				e = beside(&d, n)
			}
			some, called = append(some, e), append(called, e.name)
		}
		want := firstOf(n, some)
		if got := event.First(n.name, called...); got != want {
			t.Fatalf("%q %q: %d, not %d", n.name, called, got, want)
		}
		places[want]++
	}
	for place := -1; place < 5; place++ {
		if places[place] < 200 {
			t.Error(places)
		}
	}
}
