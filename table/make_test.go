package table_test

import (
	"math"
	"reflect"
	"slices"
	"strconv"
	"strings"
	"testing"

	"whirligig/act"
	"whirligig/api"
	"whirligig/bits"
	"whirligig/chart"
	"whirligig/dice"
	"whirligig/line"
	"whirligig/table"
	"whirligig/val"
)

// parse is a chart of which it is known that it is one; a bar between blanks parts its lines, too.
func parse(t *testing.T, text string) chart.Chart {
	t.Helper()
	c, e, at := chart.Parse(strings.ReplaceAll(text, " | ", "\n"))
	if e != api.OK {
		t.Fatalf("%q: %d %d", text, e, at)
	}
	return c
}

// made is the table of a chart of which it is known that it is valid.
func made(t *testing.T, text string) table.Table {
	t.Helper()
	c := parse(t, text)
	if e := holds(t, c); e != api.OK {
		t.Fatalf("%q: %d", text, e)
	}
	x, _ := table.Make(c)
	return x
}

// tells holds the table of a chart, line by line, against what it should be.
func tells(t *testing.T, text string, want ...string) {
	t.Helper()
	if got := told(made(t, text)); !slices.Equal(got, want) {
		t.Errorf("%s:\n%s\nnot\n%s", text, strings.Join(got, "\n"), strings.Join(want, "\n"))
	}
}

// door is a chart with all that there may be; farther in stands what lies in something.
const door = `chart door shut
var n 0
var who 'no one'
state shut
  enter set n n + 1 ; log who
  enter if n > 3 : raise worn
  exit cancel late
  on knock if n < 3 go back do set who 'a' ; raise heard
  on * inner
  state calm
    on knock.twice go left right do log n
  end
  deep again calm
end
parallel open
  auto if in(calm) or n = 7 go shut
  state left
    shallow back wide
    state ajar
      auto go wide inner
    end
    state wide
    end
  end
  state right ends
    on off go left right inner
    deep last door
    state door
      state calmer
      end
    end
    final ends
      exit send late 5
    end
  end
end
final gone
end`

// P11.1: each part of a table.
func TestMakeParts(t *testing.T) {
	tells(t, door,
		"var n 0",
		"var who 'no one'",
		"0 chart door in -1 start 1 up - under 1,2,3,4,5,6,7,8,9,10,11,12,13,14 kids 1,4,14 past - goes -",
		"1 state shut in 0 start 2 up 0 under 2,3 kids 2 past 3 goes 0,1",
		"enter set n n + 1 ; log who",
		"enter if n > 3 : raise worn",
		"exit cancel late",
		"2 state calm in 1 start -1 up 0,1 under - kids - past - goes 2",
		"3 deep again in 1 start 2 up 0,1 under - kids - past - goes -",
		"4 parallel open in 0 start -1 up 0 under 5,6,7,8,9,10,11,12,13 kids 5,9 past - goes 3",
		"5 state left in 4 start 7 up 0,4 under 6,7,8 kids 7,8 past 6 goes -",
		"6 shallow back in 5 start 8 up 0,4,5 under - kids - past - goes -",
		"7 state ajar in 5 start -1 up 0,4,5 under - kids - past - goes 4",
		"8 state wide in 5 start -1 up 0,4,5 under - kids - past - goes -",
		"9 state right in 4 start 13 up 0,4 under 10,11,12,13 kids 11,13 past 10 goes 5",
		"10 deep last in 9 start 11 up 0,4,9 under - kids - past - goes -",
		"11 state door in 9 start 12 up 0,4,9 under 12 kids 12 past - goes -",
		"12 state calmer in 11 start -1 up 0,4,9,11 under - kids - past - goes -",
		"13 final ends in 9 start -1 up 0,4,9 under - kids - past - goes -",
		"exit send late 5",
		"14 final gone in 0 start -1 up 0 under - kids - past - goes -",
		"from 1 to 6: on knock if n < 3 go back do set who 'a' ; raise heard",
		"from 1 to -: on * inner",
		"from 2 to 5,9: on knock.twice go left right do log n",
		"from 4 to 1: auto if in(calm) or n = 7 go shut",
		"from 7 to 8: auto go wide inner",
		"from 9 to 5,9: on off go left right inner",
	)
	tells(t, "chart c | state a | end",
		"0 chart c in -1 start 1 up - under 1 kids 1 past - goes -",
		"1 state a in 0 start -1 up 0 under - kids - past - goes -",
	)
}

// P11.1: the values that variables have at first, in order, of all kinds.
func TestMakeVars(t *testing.T) {
	x := made(t, "chart c | var n - 7 | var b true | var a 'a  b' | state n | end")
	if !slices.Equal(x.Vars, []chart.Var{{Name: "n", V: val.Of(-7)}, {Name: "b", V: val.Truth(true)}, {Name: "a", V: val.Word("a  b")}}) {
		t.Error(x.Vars)
	}
}

// P11.1: what a state begins in.
func TestMakeStart(t *testing.T) {
	for text, want := range map[string][]int{
		"c | state a | end | state b | end":                                                                            {1, -1, -1},
		"c a | state a | end | state b | end":                                                                          {1, -1, -1},
		"c b | state a | end | state b | end":                                                                          {2, -1, -1},
		"c | final a | end":                                                                                            {1, -1},
		"c | deep h a | state a | end":                                                                                 {2, 2, -1},
		"c | shallow g b | deep h a | state a | end | state b | end":                                                   {3, 4, 3, -1, -1},
		"c | state a | deep h b | shallow g b | final b | end | end":                                                   {1, 4, 4, 4, -1},
		"c | state a | state b | end | deep h b | end":                                                                 {1, 2, -1, 2},
		"c | state a d | state b | end | state d | end | end":                                                          {1, 3, -1, -1},
		"c | parallel p | state a | end | state b | state d | end | end | end":                                         {1, -1, -1, 4, -1},
		"c | parallel p | parallel q | state a | end | end | end":                                                      {1, -1, -1, -1},
		"c | deep h d | parallel p | state a | end | state b | state e | end | state d | end | end | end":              {2, 6, -1, -1, 5, -1, -1},
		"c | state a | state b | state d | end | end | shallow g b | deep h d | deep j b | end":                        {1, 2, 3, -1, 2, 3, 2},
		"c c | state a | state b | end | end | state c | state d | end | end":                                          {3, 2, -1, 4, -1},
		"c | state a c | state b | end | state c | end | end":                                                          {1, 3, -1, -1},
		"c | shallow g c | state c | end | final d | end":                                                              {2, 2, -1, -1},
		"c | state a | state b e | final d | end | state e | end | shallow g e | end | end | state f | end | deep h e": {1, 2, 4, -1, -1, 4, -1, 4},
	} {
		var got []int
		for _, r := range made(t, "chart "+text).Rows {
			got = append(got, r.Start)
		}
		if !slices.Equal(got, want) {
			t.Error(text, got, "not", want)
		}
	}
}

// P11.1: transitions come state by state, and those of one in order; those that lie within one come behind its own.
func TestMakeGoes(t *testing.T) {
	tells(t,
		"chart c | state a | state b | on e go d | auto go h inner | end | state d | end | on f | on g do log 1 | end | parallel p | on * go b | state q | auto if true | end | state r | on e go r | end | on e.f go r q | end | deep h d",
		"0 chart c in -1 start 1 up - under 1,2,3,4,5,6,7 kids 1,4 past 7 goes -",
		"1 state a in 0 start 2 up 0 under 2,3 kids 2,3 past - goes 0,1",
		"2 state b in 1 start -1 up 0,1 under - kids - past - goes 2,3",
		"3 state d in 1 start -1 up 0,1 under - kids - past - goes -",
		"4 parallel p in 0 start -1 up 0 under 5,6 kids 5,6 past - goes 4,5",
		"5 state q in 4 start -1 up 0,4 under - kids - past - goes 6",
		"6 state r in 4 start -1 up 0,4 under - kids - past - goes 7",
		"7 deep h in 0 start 3 up 0 under - kids - past - goes -",
		"from 1 to -: on f",
		"from 1 to -: on g do log 1",
		"from 2 to 3: on e go d",
		"from 2 to 7: auto go h inner",
		"from 4 to 2: on * go b",
		"from 4 to 6,5: on e.f go r q",
		"from 5 to -: auto if true",
		"from 6 to 6: on e go r",
	)
}

// P11.1: as many variables, states, lists, transitions and targets as there may be, as deep as they may be.
func TestMakeFull(t *testing.T) {
	l := []string{"chart c"}
	for i := range api.MaxVars {
		l = append(l, "var v"+strconv.Itoa(i)+" "+strconv.Itoa(i))
	}
	l = append(l, "parallel p", "state r0", "end", "state r1", "end", "state r2", "end", "state r3")
	for i := range 6 {
		l = append(l, "state d"+strconv.Itoa(i))
	}
	l = append(l, slices.Repeat([]string{"on e go r3 r0 r2 r1"}, 48)...)
	l = append(l, slices.Repeat([]string{"enter log 1 ; log 2"}, 8)...)
	l = append(l, slices.Repeat([]string{"exit log 3"}, 8)...)
	l = append(l, slices.Repeat([]string{"end"}, 8)...)
	for i := range 37 {
		l = append(l, "state s"+strconv.Itoa(i))
		if i == 36 {
			l = append(l, slices.Repeat([]string{"auto go s0"}, 48)...)
		}
		l = append(l, "end")
	}
	x := made(t, strings.Join(l, "\n"))
	last, deep := x.Rows[48], x.Rows[11]
	if len(x.Rows) != 49 || len(x.Goes) != 96 || len(x.Vars) != 16 || last.Name != "s36" || len(last.Goes) != 48 || last.Goes[47] != 95 {
		t.Error(len(x.Rows), len(x.Goes), len(x.Vars), last)
	}
	if deep.Name != "d5" || deep.Up != bits.Of(0, 1, 5, 6, 7, 8, 9, 10) || len(deep.Enter) != 8 || len(deep.Exit) != 8 || len(deep.Enter[7]) != 2 || len(deep.Goes) != 48 {
		t.Error(deep)
	}
	if r := x.Rows[0]; r.Under.Count() != 48 || !r.Under.Has(48) || r.Kids.Count() != 38 || !r.Kids.Has(48) {
		t.Error(r)
	}
	if g := x.Goes[47]; g.Source != 11 || !slices.Equal(g.Targets, []int{5, 2, 4, 3}) || x.Goes[48].Source != 48 || !slices.Equal(x.Goes[95].Targets, []int{12}) {
		t.Error(g, x.Goes[48], x.Goes[95])
	}
}

// P11.1: a chart that isn't valid has no table, but layer 9's error.
func TestMakeErrors(t *testing.T) {
	for text, want := range map[string]api.Errno{
		"c":                                        api.ErrKids,
		"c | var x 1":                              api.ErrKids,
		"c | deep h h":                             api.ErrKids,
		"c | state a | end | state a | end":        api.ErrTwice,
		"c | var x 1 | var x 2 | state a | end":    api.ErrTwice,
		"c | state a | end | deep h h":             api.ErrHistory,
		"c | state a | end | shallow h c":          api.ErrHistory,
		"c b | state a | end":                      api.ErrStart,
		"c h | state a | end | deep h a":           api.ErrStart,
		"c | final a | on e | end":                 api.ErrKids,
		"c | parallel p | end":                     api.ErrKids,
		"c | state a | on e if 1 | end":            api.ErrType,
		"c | state a | enter log 1 + x | end":      api.ErrName,
		"c | state a | enter set x 1 | end":        api.ErrName,
		"c | state a | on e go b | end":            api.ErrTarget,
		"c | state a | on e go a a | end":          api.ErrTarget,
		"c | state a | on e go c | end":            api.ErrTarget,
		"c | state a | auto | end":                 api.ErrForm,
		"c | var x 1 | var x 2":                    api.ErrTwice,
		"c b | state a | auto | end":               api.ErrStart,
		"c | state a | auto | end | final a | end": api.ErrForm,
	} {
		if e := holds(t, parse(t, "chart "+text)); e != want {
			t.Error(text, e, "not", want)
		}
	}
	for _, c := range []chart.Chart{{}, {Name: "c"}, {States: []chart.State{}}, {Name: "c", Vars: []chart.Var{{Name: "x"}, {Name: "x"}}}} {
		if e := holds(t, c); e != api.ErrChart {
			t.Error(c, e)
		}
	}
}

// P11.1, P11.2: all rows of a few lines that are a chart, when those states are closed that are open.
func TestMakeShort(t *testing.T) {
	few := []string{"state a", "state b a", "parallel p", "final f", "deep h a", "shallow g b", "end"}
	all := append(few, "state d", "state c f", "parallel q", "deep i b", "shallow j f", "on e go b h", "auto go a", "on * go f a", "enter log in(b)")
	found := map[api.Errno]int{}
	var goOn func(text string, lines []string, more int)
	goOn = func(text string, lines []string, more int) {
		c, e, _ := chart.Parse(text)
		for s := text; e == api.ErrShort; c, e, _ = chart.Parse(s) {
			s += "\nend"
		}
		if e != api.OK {
			return
		}
		found[holds(t, c)]++
		for _, s := range lines {
			if more > 0 {
				goOn(text+"\n"+s, lines, more-1)
			}
		}
	}
	goOn("chart c", all, 4)
	goOn("chart c a\nvar x 1", all, 3)
	goOn("chart a\nstate b", all, 3)
	goOn("chart c\nparallel p\nstate a", all, 3)
	goOn("chart c", few, 6)
	for _, e := range []api.Errno{api.OK, api.ErrTwice, api.ErrHistory, api.ErrKids, api.ErrStart, api.ErrTarget} {
		if found[e] < 500 {
			t.Error(e, found)
		}
	}
}

// P11.1, P11.2: charts of all sizes.
func TestMakeLong(t *testing.T) {
	c := dice.Charts{Dice: 4}
	found, great, goes, past := map[api.Errno]int{}, 0, 0, 0
	for i := range 3000 {
		c.Seldom = []int{0, 0, 400}[i%3]
		s, e, _ := chart.Parse(c.Text(1 + c.Below(48)))
		if e != api.OK {
			continue
		}
		e = holds(t, s)
		found[e]++
		x, _ := table.Make(s)
		if len(x.Rows) > 20 {
			great++
		}
		for _, g := range x.Goes {
			for _, to := range g.Targets {
				goes++
				if x.IsPast(to) {
					past++
				}
			}
		}
		if e == api.OK {
			several(t, &c.Dice, s, x)
		}
	}
	if found[api.OK] < 1000 || len(found) < 8 || great < 500 || goes < 10000 || past < 500 {
		t.Error(found, great, goes, past)
	}
}

// What is handed in stays as it is, its spare room too.
func TestMakeStays(t *testing.T) {
	c := dice.Charts{Dice: 5, Seldom: 400}
	for range 300 {
		text := c.Text(20)
		a, e, _ := chart.Parse(text)
		if e != api.OK {
			continue
		}
		b := parse(t, text)
		for _, s := range []*chart.Chart{&a, &b} {
			s.Vars, s.States = append(s.Vars, chart.Var{Name: "z"}), append(s.States, chart.State{Name: "z"})
		}
		part := a
		part.Vars, part.States = a.Vars[:len(a.Vars)-1], a.States[:len(a.States)-1]
		holds(t, part)
		if !reflect.DeepEqual(a, b) {
			t.Fatal(text)
		}
	}
}

// P1: of whatever charts, the call ends.
func TestMakeWild(t *testing.T) {
	d := dice.Dice(6)
	number := func() int { return dice.One(&d, []int{math.MinInt, -2, -1, 0, 1, 2, 3, 64, math.MaxInt}) }
	found := map[api.Errno]int{}
	for range 50000 {
		w := chart.Chart{Vars: make([]chart.Var, d.Below(2)), States: make([]chart.State, d.Below(5))}
		for i := range w.States {
			s := chart.State{Name: string(rune('a' + i)), Kind: d.Below(14) - 1, Parent: number(), Start: d.Maybe("b")}
			if d.Below(3) > 0 {
				s.Kind, s.Parent = dice.One(&d, []int{line.State, line.Parallel, line.Deep}), d.Below(i+1)-d.Below(2)
			}
			if d.Below(3) == 0 {
				s.Enter = [][]act.Act{nil, {{Kind: number()}}}
				s.Trans = []line.Trans{{Event: "e"}, {Event: d.Maybe("e"), Goes: []string{d.Pick("b", "c", "")}}}
			}
			w.States[i] = s
		}
		_, e := table.Make(w)
		found[e]++
	}
	if found[api.OK] < 500 || len(found) < 5 {
		t.Error(found)
	}
	// More states than a set may have.
	many := chart.Chart{States: []chart.State{{Kind: line.Chart, Parent: -1}}}
	for i := range 200 {
		many.States = append(many.States, chart.State{Name: strconv.Itoa(i), Kind: line.State, Parent: i})
	}
	if _, e := table.Make(many); e != api.OK {
		t.Error(e)
	}
}
