package move_test

import (
	"slices"
	"strings"
	"testing"

	"whirligig/bits"
	"whirligig/move"
	"whirligig/snap"
	"whirligig/table"
)

// house is a chart without transitions; farther in stands what lies in something.
const house = `chart house
state a
  state b
    state c
    end
    state d
    end
    shallow bs d
  end
  state e
    state f
      state g
      end
      state h
      end
    end
    final i
    end
  end
  deep ad g
  shallow as e
end
state o
  parallel p
    state q
      state r
      end
      state s
      end
      shallow qs s
    end
    parallel t
      state u
        state v
        end
        state w
        end
        deep ud w
      end
      state x
      end
    end
    state y
    end
  end
  state n
  end
  deep od r
  shallow os n
end
final z
end
deep rd w
shallow rs o`

// room is a chart's table, and a snapshot of it, with names for places.
type room struct {
	table.Table
	now snap.Snap
	t   *testing.T
}

// at is the room of the house with some transitions, in the order in which they stand in it, each a state's name and what it says. What is active is told by names; so is what histories remember, one behind the other, each with its own name first.
func at(t *testing.T, ways []string, in, past string) room {
	t.Helper()
	text := house
	for _, w := range slices.Backward(ways) {
		source, says, _ := strings.Cut(w, " ")
		for _, word := range []string{"state ", "parallel "} {
			text = strings.Replace(text, word+source+"\n", word+source+"\non e "+says+"\n", 1)
		}
	}
	x := made(t, text)
	r := room{x, snap.Begin(x), t}
	if len(x.Goes) != len(ways) {
		t.Fatal(ways)
	}
	for i, w := range ways {
		if source, _, _ := strings.Cut(w, " "); x.Rows[x.Goes[i].Source].Name != source {
			t.Fatal(ways)
		}
	}
	if r.now.In = r.set(in); in != "" && !r.now.Legal(x) {
		t.Fatal(in)
	}
	r.now.Past = r.pasts(past)
	return r
}

// places are the places of some states.
func (r room) places(names string) []int {
	r.t.Helper()
	var l []int
	for _, name := range strings.Fields(names) {
		i := slices.IndexFunc(r.Rows, func(w table.Row) bool { return w.Name == name })
		if i < 0 {
			r.t.Fatal(name)
		}
		l = append(l, i)
	}
	return l
}

// set is the set of some states.
func (r room) set(names string) bits.Set {
	r.t.Helper()
	return bits.Of(r.places(names)...)
}

// pasts is what all histories remember.
func (r room) pasts(past string) []bits.Set {
	r.t.Helper()
	l := make([]bits.Set, len(r.Rows))
	if past == "" {
		return l
	}
	for one := range strings.SplitSeq(past, " / ") {
		name, was, _ := strings.Cut(one, " ")
		l[r.places(name)[0]] = r.set(was)
	}
	return l
}

// is holds states against what they should be.
func (r room) is(got bits.Set, want string, of ...any) {
	r.t.Helper()
	if got != r.set(want) {
		r.t.Errorf("%q: %q, not %s", of, r.Names(got), want)
	}
}

// P15.1: what states lead to, and histories.
func TestTargets(t *testing.T) {
	for _, c := range [][3]string{
		{"", "", ""},
		{"a", "", "a"},
		{"z c o", "", "c o z"},
		{"c c c", "", "c"},
		{"a b c", "", "a b c"},
		// A history that remembers nothing leads to its Start, wherever that is.
		{"bs", "", "d"},
		{"ad", "", "g"},
		{"as", "", "e"},
		{"od os", "", "r n"},
		{"rd", "", "w"},
		{"rs", "", "o"},
		{"bs d", "", "d"},
		{"ad as bs", "", "g e d"},
		// What it remembers counts, and its Start doesn't.
		{"bs", "bs c", "c"},
		{"bs", "bs d", "d"},
		{"ad", "ad i", "i"},
		{"as", "ad i", "e"},
		{"as bs", "as b", "b d"},
		{"od", "od s w x y", "s w x y"},
		{"od z od", "od r v x y", "r v x y z"},
		{"od ud qs", "od r w x y", "r w x y s"},
		{"od ud qs", "ud v", "r v s"},
		{"ud qs", "ud v / qs r", "r v"},
		{"os", "os p", "p"},
		{"p os", "os p", "p"},
		{"a", "ad i / as e", "a"},
	} {
		r := at(t, nil, "", c[1])
		r.is(move.Targets(r.Table, r.now, r.places(c[0])...), c[2], c)
	}
}

// goes is a transition with what it should do; a domain that is none is empty.
type goes struct {
	way, in, past         string
	domain, exits, enters string
}

// These are all that is active in o, and what is entered there, but for what is in q and u.
const (
	both = "o p q r t u v x y"
	rest = "p q t u x y "
)

// does holds what transitions do against what it should be.
func does(t *testing.T, l []goes) {
	t.Helper()
	for _, c := range l {
		r := at(t, []string{c.way}, c.in, c.past)
		d, ok := move.Domain(r.Table, r.now, 0)
		if ok != (c.domain != "") || !ok && d != 0 || ok && r.Rows[d].Name != c.domain {
			t.Errorf("%q: domain %d %v", c, d, ok)
		}
		r.is(move.Exits(r.Table, r.now, 0), c.exits, c)
		r.is(move.Enters(r.Table, r.now, 0), c.enters, c)
	}
}

// P15.1, P15.2: transitions from and to states that are no histories, outside of parallel ones.
func TestPlain(t *testing.T) {
	does(t, []goes{
		{"c go d", "a b c", "", "b", "c", "d"},
		{"c go c", "a b c", "", "b", "c", "c"},
		{"c go b", "a b c", "", "a", "b c", "b c"},
		{"c go a", "a b c", "", "house", "a b c", "a b c"},
		{"c go e", "a b c", "", "a", "b c", "e f g"},
		{"c go h", "a b c", "", "a", "b c", "e f h"},
		{"c go i", "a b c", "", "a", "b c", "e i"},
		{"c go z", "a b c", "", "house", "a b c", "z"},
		{"c go n", "a b c", "", "house", "a b c", "o n"},
		{"b go d", "a b c", "", "a", "b c", "b d"},
		{"a go d", "a b c", "", "house", "a b c", "a b d"},
		{"a go a", "a e f h", "", "house", "a e f h", "a b c"},
		{"f go i", "a e f h", "", "e", "f h", "i"},
		// What isn't active isn't left; and where nothing is nothing is.
		{"c go d", "", "", "b", "", "d"},
		{"c go d", "a b d", "", "b", "d", "d"},
		{"c go d", "a e i", "", "b", "", "d"},
		{"a go h", "z", "", "house", "z", "a e f h"},
		// These go nowhere.
		{"c", "a b c", "", "", "", ""},
		{"a inner", "a b c", "", "", "", ""},
		{"b if 1 < 2 inner do log 1", "a b c", "", "", "", ""},
		{"p do raise f", both, "", "", "", ""},
	})
}

// P15.1, P15.2: transitions that are Inner: they are so just if the Source is compound, and all lies within it.
func TestInner(t *testing.T) {
	does(t, []goes{
		{"b go d inner", "a b c", "", "b", "c", "d"},
		{"b go c inner", "a b c", "", "b", "c", "c"},
		{"b go b inner", "a b c", "", "a", "b c", "b c"},
		{"b go e inner", "a b c", "", "a", "b c", "e f g"},
		{"b go a inner", "a b c", "", "house", "a b c", "a b c"},
		{"a go d inner", "a b c", "", "a", "b c", "b d"},
		{"a go h inner", "a b c", "", "a", "b c", "e f h"},
		{"a go b inner", "a e i", "", "a", "e i", "b c"},
		{"c go c inner", "a b c", "", "b", "c", "c"},
		{"c go d inner", "a b c", "", "b", "c", "d"},
		{"f go h inner", "a e f g", "", "f", "g", "h"},
		{"o go n inner", both, "", "o", rest + "r v", "n"},
		{"o go s w inner", both, "", "o", rest + "r v", rest + "s w"},
		{"u go w inner", both, "", "u", "v", "w"},
		{"q go w inner", both, "", "o", rest + "r v", rest + "r w"},
		// A parallel one is not compound.
		{"p go s inner", both, "", "o", rest + "r v", rest + "s v"},
		{"t go w inner", both, "", "o", rest + "r v", rest + "r w"},
		// Histories lie within, too, or don't, wherever what they remember is.
		{"b go bs inner", "a b c", "", "b", "c", "d"},
		{"b go bs inner", "a b c", "bs c", "b", "c", "c"},
		{"a go ad inner", "a b c", "ad i", "a", "b c", "e i"},
		{"a go bs inner", "a e i", "", "a", "e i", "b d"},
		{"u go ud inner", both, "ud w", "u", "v", "w"},
		{"o go od inner", both, "od s v x y", "o", rest + "r v", rest + "s v"},
		{"o go ud qs inner", "o n", "", "o", "n", rest + "s w"},
		{"f go ad inner", "a e f g", "", "a", "e f g", "e f g"},
		{"f go ad inner", "a e f g", "ad h", "a", "e f g", "e f h"},
		{"e go ad inner", "a e f g", "ad i", "a", "e f g", "e i"},
		{"e go as inner", "a e f g", "", "a", "e f g", "e f g"},
	})
}

// P15.1, P15.2: transitions to histories: all of the parent of one that is active is left.
func TestHistories(t *testing.T) {
	does(t, []goes{
		{"c go bs", "a b c", "", "b", "c", "d"},
		{"c go bs", "a b c", "bs c", "b", "c", "c"},
		{"b go bs", "a b c", "", "a", "b c", "b d"},
		{"c go as", "a b c", "", "a", "b c", "e f g"},
		{"c go as", "a b c", "as b", "a", "b c", "b c"},
		{"n go as", "o n", "as b / bs d", "house", "o n", "a b c"},
		{"n go ad", "o n", "ad d", "house", "o n", "a b d"},
		{"n go bs", "o n", "as e", "house", "o n", "a b d"},
		{"g go ad", "a e f g", "", "a", "e f g", "e f g"},
		{"g go ad", "a e f g", "ad h", "a", "e f g", "e f h"},
		{"g go ad", "a e f g", "ad c", "a", "e f g", "b c"},
		{"a go ad", "a b c", "ad i", "house", "a b c", "a e i"},
		// Those in the root never remember anything.
		{"n go rd", "o n", "", "house", "o n", "o " + rest + "r w"},
		{"n go rs", "o n", "", "house", "o n", "o " + rest + "r v"},
		{"c go rs", "a b c", "os n", "house", "a b c", "o " + rest + "r v"},
		// Those of what has parallel ones in it.
		{"n go od", "o n", "", "o", "n", rest + "r v"},
		{"n go od", "o n", "od n", "o", "n", "n"},
		{"n go od", "o n", "od s w x y", "o", "n", rest + "s w"},
		{"n go od", "o n", "qs s / ud w", "o", "n", rest + "r v"},
		{"n go os", "o n", "", "o", "n", "n"},
		{"n go os", "o n", "os p", "o", "n", rest + "r v"},
		{"c go od", "a b c", "od s w x y", "house", "a b c", "o " + rest + "s w"},
		{"n go qs", "o n", "", "o", "n", rest + "s v"},
		{"n go qs", "o n", "qs r", "o", "n", rest + "r v"},
		{"n go ud", "o n", "", "o", "n", rest + "r w"},
		{"n go ud qs", "o n", "ud v", "o", "n", rest + "s v"},
		{"n go qs ud", "o n", "qs r / ud v", "o", "n", rest + "r v"},
		{"n go s ud", "o n", "ud v", "o", "n", rest + "s v"},
		{"r go qs", both, "", "q", "r", "s"},
		{"v go ud", both, "ud v", "u", "v", "v"},
		{"x go ud", both, "ud w", "o", rest + "r v", rest + "r w"},
		{"r go od", both, "od s v x y", "o", rest + "r v", rest + "s v"},
	})
}

// P15.1, P15.2: of parallel states all Kids are entered, those that are not gone to as at first; and one that leaves a Kid leaves them all.
func TestParallel(t *testing.T) {
	does(t, []goes{
		{"n go p", "o n", "", "o", "n", rest + "r v"},
		{"n go t", "o n", "", "o", "n", rest + "r v"},
		{"n go u", "o n", "", "o", "n", rest + "r v"},
		{"n go x", "o n", "", "o", "n", rest + "r v"},
		{"n go y", "o n", "", "o", "n", rest + "r v"},
		{"n go w", "o n", "", "o", "n", rest + "r w"},
		{"n go s", "o n", "", "o", "n", rest + "s v"},
		{"n go s w", "o n", "", "o", "n", rest + "s w"},
		{"n go w s", "o n", "", "o", "n", rest + "s w"},
		{"n go y x w s", "o n", "", "o", "n", rest + "s w"},
		{"n go x w", "o n", "", "o", "n", rest + "r w"},
		{"n go q t y", "o n", "", "o", "n", rest + "r v"},
		{"n go t s", "o n", "", "o", "n", rest + "s v"},
		{"c go w", "a b c", "", "house", "a b c", "o " + rest + "r w"},
		{"n go o", "o n", "", "house", "o n", "o " + rest + "r v"},
		{"r go s", both, "", "q", "r", "s"},
		{"r go r", both, "", "q", "r", "r"},
		{"v go w", both, "", "u", "v", "w"},
		{"r go w", both, "", "o", rest + "r v", rest + "r w"},
		{"v go x", both, "", "o", rest + "r v", rest + "r v"},
		{"v go s w", both, "", "o", rest + "r v", rest + "s w"},
		{"x go x", both, "", "o", rest + "r v", rest + "r v"},
		{"q go q", both, "", "o", rest + "r v", rest + "r v"},
		{"q go s", both, "", "o", rest + "r v", rest + "s v"},
		{"u go w", both, "", "o", rest + "r v", rest + "r w"},
		{"p go s", both, "", "o", rest + "r v", rest + "s v"},
		{"p go p", both, "", "o", rest + "r v", rest + "r v"},
		{"y go n", both, "", "o", rest + "r v", "n"},
		{"o go w", both, "", "house", both, "o " + rest + "r w"},
		{"v go a", both, "", "house", both, "a b c"},
	})
}

// P15.1, P15.2: several transitions: what each one leaves, and, one by one, what it enters.
func TestSeveral(t *testing.T) {
	for _, c := range []struct {
		ways          []string
		in            string
		goes          []int
		exits, enters string
	}{
		{[]string{"r go s", "v go w"}, both, nil, "", ""},
		{[]string{"r go s", "v go w"}, both, []int{0, 1}, "r v", "s w"},
		{[]string{"r go s", "v go w"}, both, []int{1, 0}, "r v", "s w"},
		{[]string{"r go s", "v go w"}, both, []int{1, 1}, "v", "w"},
		{[]string{"r go s", "v"}, both, []int{0, 1}, "r", "s"},
		{[]string{"r", "v go w"}, both, []int{0, 1}, "v", "w"},
		{[]string{"r", "v"}, both, []int{0, 1}, "", ""},
		{[]string{"r go qs", "u go w inner", "y"}, both, []int{2, 1, 0}, "r v", "s w"},
		// These are in each other's way; so the order counts.
		{[]string{"n go s", "n go w"}, "o n", []int{0, 1}, "n", rest + "s v w"},
		{[]string{"n go s", "n go w"}, "o n", []int{1, 0}, "n", rest + "r s w"},
		{[]string{"n go w", "n go t"}, "o n", []int{0, 1}, "n", rest + "r w"},
		{[]string{"n go w", "n go t"}, "o n", []int{1, 0}, "n", rest + "r v w"},
		{[]string{"n go qs", "n go s"}, "o n", []int{0, 1}, "n", rest + "s v"},
		{[]string{"c go d", "c go b"}, "a b c", []int{0, 1}, "b c", "b c d"},
		{[]string{"b go d", "c go e", "c go z"}, "a b c", []int{2, 0, 1}, "a b c", "b d e f g z"},
		{[]string{"c go d", "c", "g go h"}, "a b c", []int{2, 1, 0}, "c", "d h"},
	} {
		r := at(t, c.ways, c.in, "")
		r.is(move.Exits(r.Table, r.now, c.goes...), c.exits, c.ways, c.goes, "exits")
		r.is(move.Enters(r.Table, r.now, c.goes...), c.enters, c.ways, c.goes, "enters")
	}
}

// P15.2: what histories remember, when these states are left.
func TestRemember(t *testing.T) {
	const all = "o p q s t u w x y"
	for _, c := range []struct{ in, past, exits, want string }{
		{"a b c", "", "", ""},
		{"a b c", "", "c", ""},
		{"a b c", "", "b c", "bs c"},
		{"a b c", "", "b", "bs c"},
		{"a b c", "", "a b c", "bs c / ad c / as b"},
		{"a b d", "bs c", "b d", "bs d"},
		{"a e f h", "", "f h", ""},
		{"a e f h", "", "e f h", ""},
		{"a e f h", "", "a e f h", "ad h / as e"},
		{"a e i", "", "a e i", "ad i / as e"},
		// What isn't left remembers what it did, and nothing else stays.
		{"a e f h", "bs d", "a e f h", "bs d / ad h / as e"},
		{"a e f h", "bs d / ad g / as b", "a e f h", "bs d / ad h / as e"},
		{"a b c", "od n / os n / ad i", "b c", "od n / os n / ad i / bs c"},
		{"o n", "", "o n", "od n / os n"},
		{"o n", "od s w x y / os p / qs s / ud w", "o n", "od n / os n / qs s / ud w"},
		{"o n", "od s w x y / os p / qs s / ud w", "", "od s w x y / os p / qs s / ud w"},
		// A deep one remembers all that is atomic, however deep, a shallow one just the Kid.
		{all, "", "s w", ""},
		{all, "", "q s", "qs s"},
		{all, "", "u w", "ud w"},
		{all, "", "t u w x y", "ud w"},
		{all, "qs r", "p q s t u w x y", "qs s / ud w"},
		{all, "od n / os n", all, "qs s / ud w / od s w x y / os p"},
		{all, "", "o", "od s w x y / os p"},
		{both, "", both, "qs r / ud v / od r v x y / os p"},
		// The root is never left.
		{"z", "", "z", ""},
		{"z", "os p", "z", "os p"},
	} {
		r := at(t, nil, c.in, c.past)
		if got := move.Remember(r.Table, r.now, r.set(c.exits)); !slices.Equal(got, r.pasts(c.want)) {
			t.Errorf("%q: %v, not %v", c, got, r.pasts(c.want))
		}
	}
	// There is a set for each state.
	x := made(t, "chart c | state a | end")
	if got := move.Remember(x, snap.Begin(x), bits.Of(1)); !slices.Equal(got, []bits.Set{0, 0}) {
		t.Error(got)
	}
}

// P15.2: what a chart enters at first: what remembers something plays no part, nor does what is active.
func TestFirst(t *testing.T) {
	for text, want := range map[string]bits.Set{
		"c | state a | end":                                                     bits.Of(1),
		"c | final a | end":                                                     bits.Of(1),
		"c | state a | end | state b | end":                                     bits.Of(1),
		"c b | state a | end | state b | end":                                   bits.Of(2),
		"c | shallow g b | deep h a | state a | end | state b | end":            bits.Of(3),
		"c b | state a | end | state b e | state d | end | state e | end | end": bits.Of(2, 4),
		"c | state a | deep h b | final d | end | state b | end | end":          bits.Of(1, 3),
		"c | parallel p | state a | state b | end | end | state d | end | end":  bits.Of(1, 2, 3, 4),
		"c | state a | end | parallel p | state b | end | end":                  bits.Of(1),
		"c p | state a | end | parallel p | state b | end | end":                bits.Of(2, 3),
		"c | parallel p | state a e | state b | end | final e | end | shallow h b | end | parallel q | state f | end | state g | state i | end | end | end | end": bits.Of(1, 2, 4, 6, 7, 8, 9),
	} {
		x := made(t, "chart "+text)
		s := snap.Begin(x)
		if got := move.First(x, s); got != want {
			t.Error(text, got.Show(), "not", want.Show())
		}
		s.In = want
		if got := move.First(x, s); got != want || !s.Legal(x) {
			t.Error(text, got.Show(), "not", want.Show())
		}
		s.Past = move.Remember(x, s, s.In)
		if got := move.First(x, s); got != want {
			t.Error(text, got.Show(), "not", want.Show())
		}
	}
	r := at(t, nil, both, "")
	r.is(move.First(r.Table, r.now), "a b c")
}
