package move_test

import (
	"math"
	"slices"
	"testing"

	"whirligig/bits"
	"whirligig/chart"
	"whirligig/dice"
	"whirligig/line"
	"whirligig/move"
	"whirligig/reading"
	"whirligig/snap"
	"whirligig/table"
)

// chosen are up to so many numbers below a bound; one may be there twice.
func chosen(d *dice.Dice, most, below int) []int {
	var l []int
	for range d.Below(most + 1) {
		l = append(l, d.Below(below))
	}
	return l
}

// holds holds what is told of a snapshot against what it should be, for some transitions, states and exits.
func (m model) holds(t *testing.T, d *dice.Dice, text string, x table.Table, s snap.Snap) {
	t.Helper()
	for g, w := range m.Ways {
		want, is := 0, m.Domain(s, w)
		if is != nil {
			want = is.At
		}
		if at, ok := move.Domain(x, s, g); at != want || ok != (is != nil) {
			t.Fatalf("%s:\n%v: %d: %d %v, not %d", text, s, g, at, ok, want)
		}
		m.same(t, text, x, s, g)
	}
	for range 4 {
		var l []*reading.State
		places := chosen(d, 5, len(m.All)-1)
		for i := range places {
			places[i]++
			l = append(l, m.All[places[i]])
		}
		if got, want := move.Targets(x, s, places...), m.Targets(s, l).Set(); got != want {
			t.Fatalf("%s:\n%v: %v: %s, not %s", text, s, places, got.Show(), want.Show())
		}
		if len(m.Ways) > 0 {
			m.same(t, text, x, s, chosen(d, 5, len(m.Ways))...)
		}
		m.remembers(t, text, x, s, s.In&bits.Of(chosen(d, 9, len(m.All))...))
	}
	m.remembers(t, text, x, s, s.In)
}

// same holds what some transitions leave, and enter, against what they should.
func (m model) same(t *testing.T, text string, x table.Table, s snap.Snap, goes ...int) {
	t.Helper()
	if got, want := move.Exits(x, s, goes...), m.Exits(s, m.ways(goes...)...); got != want {
		t.Fatalf("%s:\n%v: %v: %s, not %s, left", text, s, goes, got.Show(), want.Show())
	}
	if got, want := move.Enters(x, s, goes...), m.Enters(s, m.ways(goes...)...); got != want {
		t.Fatalf("%s:\n%v: %v: %s, not %s, entered", text, s, goes, got.Show(), want.Show())
	}
}

// remembers holds what histories remember against what they should.
func (m model) remembers(t *testing.T, text string, x table.Table, s snap.Snap, exits bits.Set) {
	t.Helper()
	if got, want := move.Remember(x, s, exits), m.Remember(s, exits); !slices.Equal(got, want) {
		t.Fatalf("%s:\n%v: %s: %v, not %v", text, s, exits.Show(), got, want)
	}
}

// P15.1, P15.2: charts made by chance, with snapshots made by chance.
func TestAny(t *testing.T) {
	d := dice.Dice(15)
	for _, text := range slices.Concat(charts(1, 200, 10), charts(2, 100, 48), grown(5, 200, 8), grown(6, 100, 25)) {
		x, m := tableAndModel(text)
		if got, want := move.First(x, snap.Begin(x)), m.Begins(); got != want {
			t.Fatal(text, got.Show(), want.Show())
		}
		for range 20 {
			s := m.Chance(&d)
			if !s.Legal(x) {
				t.Fatal(text, s)
			}
			m.holds(t, &d, text, x, s)
		}
		// Ahead of the first move nothing is active, and nothing is remembered.
		m.holds(t, &d, text, x, snap.Begin(x))
	}
}

// picked are some transitions of active states, made by chance, no two of which leave a common state.
func (m model) picked(d *dice.Dice, x table.Table, s snap.Snap) []int {
	var l []int
	for range 8 {
		g := d.Below(len(m.Ways))
		if s.In.Has(m.Ways[g].Source.At) && !slices.Contains(l, g) && move.Exits(x, s, g).Meet(move.Exits(x, s, l...)) == 0 {
			l = append(l, g)
		}
	}
	return l
}

// P15.1, P15.2: charts that are gone through, with no two transitions at one time in each other's way: what is active then can always be so together, nothing is entered that is active still, in whatever order they come, and it is what must be active with their targets.
func TestWalks(t *testing.T) {
	d := dice.Dice(16)
	several, pasts, nested := 0, 0, 0
	for _, text := range slices.Concat(charts(3, 200, 12), charts(4, 100, 48), grown(7, 200, 8), grown(8, 100, 25)) {
		x, m := tableAndModel(text)
		if len(m.Ways) == 0 {
			continue
		}
		s := snap.Begin(x)
		s.In = move.First(x, s)
		for range 60 {
			goes := m.picked(&d, x, s)
			exits := move.Exits(x, s, goes...)
			past := move.Remember(x, s, exits)
			if !slices.Equal(past, m.Remember(s, exits)) {
				t.Fatal(text, s, goes, past)
			}
			s.Past = past
			// What histories remember anew changes nothing of what is left.
			if got := move.Exits(x, s, goes...); got != exits {
				t.Fatal(text, s, goes, got.Show(), exits.Show())
			}
			enters := move.Enters(x, s, goes...)
			if want := m.apart(s, goes); enters != want || m.Enters(s, m.ways(goes...)...) != want {
				t.Fatal(text, s, goes, enters.Show(), want.Show())
			}
			s.In = s.In.Less(exits)
			if s.In.Meet(enters) != 0 {
				t.Fatal(text, s, goes, enters.Show())
			}
			s.In = s.In.Join(enters)
			if !s.Legal(x) {
				t.Fatal(text, s, goes)
			}
			back := slices.Clone(goes)
			slices.Reverse(back)
			if move.Enters(x, s, back...) != enters {
				t.Fatal(text, s, back)
			}
			if len(goes) > 1 {
				several++
			}
			for _, g := range goes {
				for _, n := range m.Ways[g].To {
					if n.IsPast() && s.Past[n.At] != 0 {
						pasts++
						if s.Past[n.At].Count() > 1 {
							nested++
						}
					}
				}
			}
		}
	}
	if several < 500 || pasts < 500 || nested < 50 {
		t.Error(several, pasts, nested)
	}
}

// with is a list with some room behind it, and what is in that.
func with[T any](room T, l ...T) ([]T, func() T) {
	l = append(slices.Clip(l), room)
	return l[:len(l)-1], func() T { return l[len(l)-1] }
}

// What is handed in stays as it is, its spare room too; what is told has memory of its own.
func TestMemory(t *testing.T) {
	r := at(t, []string{"c go ad", "r go qs", "v go w", "n go od"}, both, "ad i / od s w x y / qs s")
	s := r.now
	past, behind := with(bits.Of(7), s.Past...)
	s.Past = past
	was := s.Copy()
	goes, last := with(-7, 2, 1, 3)
	for range 2 {
		move.Domain(r.Table, s, 3)
		move.Targets(r.Table, s, goes...)
		move.Exits(r.Table, s, goes...)
		move.Enters(r.Table, s, goes...)
		move.First(r.Table, s)
	}
	a, b := move.Remember(r.Table, s, s.In), move.Remember(r.Table, s, s.In)
	none := move.Remember(r.Table, s, 0)
	for i := range a {
		a[i], none[i] = 63, 62
	}
	if !slices.Equal(b, r.pasts("ad i / od r v x y / os p / qs r / ud v")) {
		t.Error(b)
	}
	if !s.Same(was) || behind() != bits.Of(7) || !slices.Equal(goes, []int{2, 1, 3}) || last() != -7 {
		t.Error(s, behind(), goes, last())
	}
}

// P1: of whatever tables and snapshots, all calls end.
func TestWild(t *testing.T) {
	d := dice.Dice(17)
	numbers := []int{math.MinInt, -64, -1, 0, 0, 1, 1, 2, 2, 3, 3, 4, 4, 5, 6, 7, 62, 63, 64, 65, 69, 1 << 32, math.MaxInt}
	one := func() int { return dice.One(&d, numbers) }
	kinds := []int{line.Chart, line.State, line.State, line.Parallel, line.Parallel, line.Deep, line.Shallow, line.Final, -1, math.MaxInt}
	set := func() bits.Set {
		return dice.One(&d, []bits.Set{0, 1, 1 << 63, 1<<64 - 1, bits.Of(one(), one(), one()), bits.Of(one(), one(), one()), bits.Of(0, 1, 2)})
	}
	places := func() []int {
		var l []int
		for range d.Below(5) {
			l = append(l, one())
		}
		return l
	}
	for range 30000 {
		x := table.Table{Vars: make([]chart.Var, d.Below(3)), Rows: make([]table.Row, d.Below(8)), Goes: make([]table.Go, d.Below(4))}
		if d.Below(10) == 0 {
			x.Rows = make([]table.Row, 70)
		}
		for i := range x.Rows {
			x.Rows[i] = table.Row{Kind: dice.One(&d, kinds), Parent: one(), Start: one(), Up: set(), Under: set(), Kids: set(), Past: set(), Goes: numbers}
		}
		for i := range x.Goes {
			x.Goes[i] = table.Go{Source: one(), Targets: places(), Inner: d.Below(2) == 0}
		}
		s := snap.Snap{Status: one(), In: set(), Past: make([]bits.Set, d.Below(9))}
		if d.Below(10) == 0 {
			s.Past = make([]bits.Set, 90)
		}
		for i := range s.Past {
			s.Past[i] = set()
		}
		wild(t, x, s, append(places(), 0, 1, 2, 3), set())
		wild(t, table.Table{}, s, places(), set())
		wild(t, x, snap.Snap{}, places(), set())
	}
}

// wild asks all there is of a table that no chart may have.
func wild(t *testing.T, x table.Table, s snap.Snap, l []int, exits bits.Set) {
	t.Helper()
	move.Targets(x, s, l...)
	for _, g := range l {
		if at, ok := move.Domain(x, s, g); !ok && at != 0 || ok && (g < 0 || g >= len(x.Goes)) {
			t.Fatal(x, s, g, at, ok)
		}
	}
	move.Exits(x, s, l...)
	move.Enters(x, s, l...)
	move.First(x, s)
	if got := move.Remember(x, s, exits); len(got) != len(x.Rows) {
		t.Fatal(x, s, exits, got)
	}
}

// P1: of a table that was made, places of no transitions, and of no states.
func TestNone(t *testing.T) {
	r := at(t, []string{"c go d"}, "a b c", "")
	for _, n := range []int{math.MinInt, -1, 1, 2, 63, 64, 1 << 32, math.MaxInt} {
		if g, ok := move.Domain(r.Table, r.now, n); g != 0 || ok {
			t.Error(n, g, ok)
		}
		r.is(move.Exits(r.Table, r.now, n, 0, n), "c", n)
		r.is(move.Enters(r.Table, r.now, n, 0, n), "d", n)
		r.is(move.Exits(r.Table, r.now, n), "", n)
		r.is(move.Enters(r.Table, r.now, n), "", n)
	}
	for _, n := range []int{math.MinInt, -1, 64, 1 << 32, math.MaxInt} {
		r.is(move.Targets(r.Table, r.now, n, 1, n), "a", n)
	}
	if got := move.Remember(r.Table, r.now, 1<<63|1<<40); !slices.Equal(got, r.now.Past) {
		t.Error(got)
	}
}
