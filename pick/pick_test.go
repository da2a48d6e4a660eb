package pick_test

import (
	"slices"
	"strings"
	"testing"

	"whirligig/pick"
	"whirligig/reading"
	"whirligig/snap"
	"whirligig/table"
)

// at is a chart's table, and a snapshot with some active states; a bar between blanks parts the chart's lines, too.
func at(t *testing.T, text, in string) (table.Table, snap.Snap) {
	t.Helper()
	x, ok := reading.Table("chart c\n" + strings.ReplaceAll(text, " | ", "\n"))
	if !ok {
		t.Fatal(text)
	}
	s := snap.Begin(x)
	s.Status = snap.Running
	for _, name := range strings.Fields(in) {
		i, ok := x.Find(name)
		if !ok {
			t.Fatal(name)
		}
		s.In = s.In.With(i)
	}
	if in != "" && !s.Legal(x) {
		t.Fatal(in)
	}
	return x, s
}

// want is what is picked upon an event, while some states are active.
type want struct {
	in, name string
	list     []int
	errors   int
}

// picks holds what is picked in a chart against what should be.
func picks(t *testing.T, text string, l ...want) {
	t.Helper()
	for _, w := range l {
		x, s := at(t, text, w.in)
		if p := pick.Pick(x, s, w.name); !slices.Equal(p.List, w.list) || p.Errors != w.errors {
			t.Errorf("%s: %+v: %+v", text, w, p)
		}
	}
}

// P16.1: by which events transitions are called for.
func TestCalled(t *testing.T) {
	text := "state a | on e.a | on e | auto go b | on * | end | state b | on e.a | on * | on e | end | state c | auto if true | end | state d | on e | end | final z | end"
	picks(t, text,
		want{"a", "e.a", []int{0}, 0},
		want{"a", "e.a.b", []int{0}, 0},
		want{"a", "e", []int{1}, 0},
		want{"a", "e.b", []int{1}, 0},
		want{"a", "e.ab", []int{1}, 0},
		want{"a", "e.", []int{1}, 0},
		want{"a", "ea", []int{3}, 0},
		want{"a", "f.e.a", []int{3}, 0},
		want{"a", "*", []int{3}, 0},
		want{"a", " e", []int{3}, 0},
		want{"a", "error.execution", []int{3}, 0},
		// By an empty name nothing is but what has no event, and that by no other one.
		want{"a", "", []int{2}, 0},
		want{"b", "", nil, 0},
		want{"b", "e", []int{5}, 0},
		want{"b", "e.a", []int{4}, 0},
		want{"c", "", []int{7}, 0},
		want{"c", "e", nil, 0},
		want{"c", "*", nil, 0},
		want{"d", "e", []int{8}, 0},
		want{"d", "f", nil, 0},
		want{"d", "*", nil, 0},
		want{"d", "", nil, 0},
		want{"z", "e", nil, 0},
		want{"z", "", nil, 0},
		// Nothing is active ahead of the first move.
		want{"", "e", nil, 0},
		want{"", "", nil, 0},
	)
}

// P16.1: conditions are asked one by one, of those that are called for, up to the first one that holds; each error counts.
func TestConditions(t *testing.T) {
	vars := "var n 0 | var b true | var s 'x' | "
	l := "state a | on e if n / n = 1 go z | on f if n / n = 1 go z | auto if n / n = 1 | on e if n > 0 | on * if b or 1 % n < 1 | on e if b go z | on e if 1 / n > 0 go z | auto if b and s = 'x' | end | "
	picks(t, vars+l+"state z | end",
		want{"a", "e", []int{4}, 1},
		want{"a", "f", []int{4}, 1},
		want{"a", "g", []int{4}, 0},
		want{"a", "", []int{7}, 1},
		want{"z", "e", nil, 0},
	)
	for _, c := range []struct {
		test   string
		list   []int
		errors int
	}{
		{"true", []int{0}, 0},
		{"false", []int{1}, 0},
		{"b", []int{0}, 0},
		{"not b", []int{1}, 0},
		{"n = 0", []int{0}, 0},
		{"n != 0 and 1 / n = 1", []int{1}, 0},
		{"n = 0 or 1 / n = 1", []int{0}, 0},
		{"in(a)", []int{0}, 0},
		{"in(p)", []int{0}, 0},
		{"in(z)", []int{1}, 0},
		{"not in(z)", []int{0}, 0},
		// These come to nothing.
		{"1 / n = 0", []int{1}, 1},
		{"not (1 / n = 0)", []int{1}, 1},
		{"1 % n = 0", []int{1}, 1},
		{"9223372036854775807 + 1 > 0", []int{1}, 1},
		{"s + '-----------------------------------------------' + 's' = s", []int{1}, 1},
	} {
		text := vars + "state p | state a | on e if " + c.test + " go z | on e go a | end | end | state z | end"
		picks(t, text, want{"p a", "e", c.list, c.errors}, want{"p a", "f", nil, 0}, want{"p a", "", nil, 0}, want{"z", "e", nil, 0})
		// That none is left is no error more.
		text = vars + "state p | on f | state a | auto if " + c.test + " go z | end | end | state z | end"
		if c.list[0] == 0 {
			picks(t, text, want{"p a", "", []int{1}, 0})
		} else {
			picks(t, text, want{"p a", "", nil, c.errors})
		}
	}
}

// P16.1: conditions have what the snapshot's variables have, not what these had at first.
func TestData(t *testing.T) {
	x, s := at(t, "var n 0 | var b false | state a | on e if n > 5 and b | on e if n = 5 | on e if 10 / n > 1 | end", "a")
	for _, c := range []struct {
		n, b   int64
		list   []int
		errors int
	}{{6, 1, []int{0}, 0}, {6, 0, nil, 0}, {5, 1, []int{1}, 0}, {4, 1, []int{2}, 0}, {0, 1, nil, 1}, {-1, 0, nil, 0}} {
		s.Data[0].N, s.Data[1].N = c.n, c.b
		if p := pick.Pick(x, s, "e"); !slices.Equal(p.List, c.list) || p.Errors != c.errors {
			t.Error(c, p)
		}
	}
}

// P16.1: an atomic state's transitions are looked at ahead of those of what it lies within, from the innermost on.
func TestOutwards(t *testing.T) {
	text := `var n 0
state a
on e go z
on f go z
on * if n / n = 1 go z
on g
auto if n = 0
state b
on e go c
on f if n > 0 go z
on g if 1 / n > 0 go z
state c
on e go d
on f if false go z
on h if 1 / n > 0 go z
end
final d
end
deep h d
end
end
state z
end`
	picks(t, text,
		want{"a b c", "e", []int{8}, 0},
		want{"a b c", "f", []int{1}, 0},
		want{"a b c", "g", []int{3}, 2},
		want{"a b c", "h", nil, 2},
		want{"a b c", "i", nil, 1},
		want{"a b c", "", []int{4}, 0},
		// A final one has none, but what it lies within does.
		want{"a b d", "e", []int{5}, 0},
		want{"a b d", "g", []int{3}, 2},
		want{"z", "e", nil, 0},
		want{"z", "", nil, 0},
	)
}

// crew is a chart of three regions, of which q and r are compound, and t is atomic; transitions: of p 0 to 2, of q 3 to 5, of a 6 and 7, of r 8 to 10, of c 11 to 13, of t 14 to 17.
const crew = `var n 0
parallel p
on all go z
on out go z
on h
state q
on into go b inner
on far go b
on w if n / n = 1
state a
on each go b
on h go b
end
state b
end
end
state r
on into go d inner
on far go d
on w if 1 / n = 1
state c
on each go d
on out go d
on h go z
end
state d
end
end
state t
on each
on out
on far go z
on w go z
end
end
state z
end`

// P16.1: what several atomic states have is taken together, if it leaves no common state; what stands farther in goes first, then what came first.
func TestTogether(t *testing.T) {
	picks(t, crew,
		// One that several lie within is taken once.
		want{"p q a r c t", "all", []int{0}, 0},
		want{"p q b r d t", "all", []int{0}, 0},
		// Each of its own region.
		want{"p q a r c t", "each", []int{6, 11, 14}, 0},
		want{"p q b r c t", "each", []int{11, 14}, 0},
		want{"p q b r d t", "each", []int{14}, 0},
		want{"p q a r c t", "into", []int{3, 8}, 0},
		want{"p q b r d t", "into", []int{3, 8}, 0},
		// All of p is left by each of these, so just the first one is taken.
		want{"p q a r c t", "far", []int{4}, 0},
		// What p has was there first, but what c has is farther in; what t has leaves nothing.
		want{"p q a r c t", "out", []int{12, 15}, 0},
		want{"p q b r d t", "out", []int{1, 15}, 0},
		// What a has is taken already, when c comes to leave all; what p has leaves nothing.
		want{"p q a r c t", "h", []int{7, 2}, 0},
		want{"p q b r c t", "h", []int{2, 13}, 0},
		want{"p q b r d t", "h", []int{2}, 0},
		want{"p q a r c t", "w", []int{17}, 2},
		want{"p q a r c t", "", nil, 0},
		want{"z", "all", nil, 0},
	)
}

// P16.1: the condition of one that several lie within is asked as often as they are looked at.
func TestAskedAgain(t *testing.T) {
	text := "var n 0 | state o | on e if n / n = 1 go z | on f if n = 0 go z | parallel p | on e if 1 / n = 1 go z | state q | on e if 1 % n = 1 go z | state a | end | end | state r | on e | end | state u | end | end | end | state z | end"
	picks(t, text,
		want{"o p q a r u", "e", []int{4}, 5},
		want{"o p q a r u", "f", []int{1}, 0},
	)
}

// P16.1: what is around decides, be it far out: the innermost goes first, whichever came first.
func TestNested(t *testing.T) {
	text := `parallel p
on e go z
state q
end
state r
on e go y inner
parallel x
on e go y
state a
end
state b
on e go c inner
state c
end
end
state d
on e go f inner
state f
end
end
end
state y
end
end
state g
on e go g
end
end
state z
end`
	picks(t, text,
		// What p has comes first, then what x, b and d have, each farther in; what g has comes too late.
		want{"p q r x a b c d f g", "e", []int{3, 4}, 0},
		want{"p q r y g", "e", []int{1}, 0},
		want{"z", "e", nil, 0},
	)
	// Without inner b's leaves all of r, and d with it; what g has is in nobody's way, if it goes nowhere.
	picks(t, strings.Replace(text, "go c inner", "go c", 1), want{"p q r x a b c d f g", "e", []int{3}, 0})
	picks(t, strings.Replace(text, "go g", "", 1), want{"p q r x a b c d f g", "e", []int{3, 4, 5}, 0})
}

// P16.1: by turns one that is farther out, and one that is farther in, come first.
func TestTurns(t *testing.T) {
	for _, c := range []struct {
		text string
		list []int
	}{
		{"parallel p | on e go z | state a | end | state b | on e go b | end | end | state z | end", []int{1}},
		{"parallel p | on e go z | state a | on e go a | end | state b | end | end | state z | end", []int{1}},
		{"parallel p | on e go z | state a | end | state b | on e | end | end | state z | end", []int{0, 1}},
		{"parallel p | on e go z | state a | on e | end | state b | end | end | state z | end", []int{1, 0}},
		{"parallel p | on e | state a | end | state b | on e go b | end | end | state z | end", []int{0, 1}},
		{"parallel p | on e | state a | on e go z | end | state b | end | end | state z | end", []int{1, 0}},
		{"parallel p | state a | on e go z | end | state b | on e go z | end | end | state z | end", []int{0}},
		{"parallel p | state a | on e go a | end | state b | on e go z | end | end | state z | end", []int{0}},
		{"parallel p | state a | on e go a inner | end | state b | on e go b inner | end | end | state z | end", []int{0}},
		{"parallel p | state a | on e go h | deep h k | state k | end | end | state b | on e go b | end | end | state z | end", []int{0}},
		{"parallel p | state a | on e go h inner | deep h k | state k | end | end | state b | on e go b | end | end | state z | end", []int{0}},
		{"parallel p | state a | on e go h inner | deep h k | state k | end | end | state b | on e go i inner | shallow i l | state l | end | end | end | state z | end", []int{0, 1}},
	} {
		in := "p a b"
		for _, k := range []string{"k", "l"} {
			if strings.Contains(c.text, "state "+k) {
				in += " " + k
			}
		}
		picks(t, c.text, want{in, "e", c.list, 0})
	}
}
