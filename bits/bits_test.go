package bits_test

import (
	"slices"
	"testing"

	"whirligig/bits"
	"whirligig/dice"
)

// full has all numbers that may be in a set.
const full bits.Set = 1<<64 - 1

// P10.1, P10.2: what sets tell of themselves.
func TestOf(t *testing.T) {
	for _, l := range some() {
		holds(t, bits.Of(l...), plainOf(l...))
	}
}

// P10.1: numbers come in any order, and as often as may be; those that may be in no set are left out.
func TestOfMixed(t *testing.T) {
	d, out := dice.Dice(1), never()
	for range 2000 {
		var l []int
		for range d.Below(12) {
			l = append(l, d.Below(64), dice.One(&d, out))
			l = append(l, dice.One(&d, l))
		}
		s := bits.Of(l...)
		holds(t, s, plainOf(l...))
		slices.Reverse(l)
		if bits.Of(l...) != s {
			t.Fatal(l)
		}
	}
}

// P10.1: a number is its bit; a set is given by these.
func TestBits(t *testing.T) {
	for n := range 64 {
		if s := bits.Of(n); s != 1<<n || bits.Set(0).With(n) != 1<<n || full.Without(n) != full-1<<n {
			t.Error(n, s)
		}
	}
	for s, want := range map[bits.Set]string{0: "", 1: "0", 2: "1", 3: "0,1", 0x22: "1,5", 1<<10 | 1<<9: "9,10", 1 << 63: "63", 1<<63 | 1<<62 | 1: "0,62,63"} {
		if got := s.Show(); got != want {
			t.Error(uint64(s), got, want)
		}
	}
	if got := bits.Of(5, 1, 64).Show(); got != "1,5" {
		t.Error(got)
	}
}

// P10.1: numbers that aren't from 0 to 63 are in no set, come into none, and take nothing out of one.
func TestNever(t *testing.T) {
	for _, n := range never() {
		for _, s := range []bits.Set{0, 1, 1 << 63, bits.Of(0, 31, 32, 63), full} {
			if s.Has(n) || s.With(n) != s || s.Without(n) != s || bits.Of(n) != 0 {
				t.Error(n, s.Show())
			}
			if s.With(n, 5, n) != s.With(5) || s.Without(n, 5, n) != s.Without(5) {
				t.Error(n, s.Show())
			}
		}
	}
}

// P10.1: two sets, and a set and numbers.
func TestTwo(t *testing.T) {
	l := some()
	for _, a := range l {
		for _, b := range l {
			p, q, s, r := plainOf(a...), plainOf(b...), bits.Of(a...), bits.Of(b...)
			or := both(p, q, func(a, b bool) bool { return a || b }).number()
			and := both(p, q, func(a, b bool) bool { return a && b }).number()
			less := both(p, q, func(a, b bool) bool { return a && !b }).number()
			if uint64(s.Join(r)) != or || uint64(s.With(b...)) != or {
				t.Fatal(a, b, "join", s.Join(r).Show(), "with", s.With(b...).Show())
			}
			if uint64(s.Meet(r)) != and {
				t.Fatal(a, b, "meet", s.Meet(r).Show())
			}
			if uint64(s.Less(r)) != less || uint64(s.Without(b...)) != less {
				t.Fatal(a, b, "less", s.Less(r).Show(), "without", s.Without(b...).Show())
			}
			if s.In(r) != (less == 0) {
				t.Fatal(a, b, "in", s.In(r))
			}
			if s != bits.Of(a...) || r != bits.Of(b...) {
				t.Fatal(a, b, "no longer themselves")
			}
		}
	}
}

// P10.1: in what is in itself, in what has more, and not in what has less.
func TestIn(t *testing.T) {
	for n := range 64 {
		s, more := bits.Of(n), bits.Of(n, (n+1)%64)
		if !s.In(s) || !s.In(more) || more.In(s) || !s.In(full) || full.In(s) || s.In(0) || !bits.Set(0).In(s) || s.In(full.Less(s)) {
			t.Error(n)
		}
	}
	if !bits.Set(0).In(0) || !full.In(full) {
		t.Error("none, all")
	}
}

// P10.1: none, one, or more are handed in at once.
func TestMany(t *testing.T) {
	s := bits.Of(7, 9)
	if s.Join() != s || s.With() != s || s.Without() != s || bits.Of() != 0 {
		t.Error("nothing handed in")
	}
	if s.Join(nil...) != s || s.With(nil...) != s || s.Without(nil...) != s || bits.Of(nil...) != 0 {
		t.Error("nil handed in")
	}
	d := dice.Dice(2)
	for range 2000 {
		want := plainOf(s.List()...)
		var more []bits.Set
		for range d.Below(6) {
			n, m := d.Below(80), d.Below(64)
			more = append(more, bits.Of(n, m))
			want = both(want, plainOf(n, m), func(a, b bool) bool { return a || b })
		}
		holds(t, s.Join(more...), want)
	}
	if s.Join(1, 2, 4, 8) != s|15 || s.With(0, 1, 2, 3) != s|15 || full.Without(0, 1, 2, 3) != full-15 {
		t.Error("four handed in")
	}
}

// P10.1: what is handed in stays as it is, its spare room, too.
func TestHandedIn(t *testing.T) {
	room := []int{5, 64, 1, 1, -1, 3, 9}
	was := slices.Clone(room)
	bits.Of(room[:4]...)
	full.With(room[:4]...)
	full.Without(room[:4]...)
	if !slices.Equal(room, was) {
		t.Error(room)
	}
	sets := []bits.Set{3, 1, 2, full, 0}
	before := slices.Clone(sets)
	bits.Set(4).Join(sets[:3]...)
	if !slices.Equal(sets, before) {
		t.Error(sets)
	}
}

// P10.2: numbers come as far as they are asked, and are asked for again from the beginning.
func TestAsked(t *testing.T) {
	for _, l := range some() {
		s := bits.Of(l...)
		rising := plainOf(l...).numbers()
		falling := slices.Clone(rising)
		slices.Reverse(falling)
		all, back := s.All(), s.Back()
		for many := range min(len(rising), 5) + 1 {
			asked(t, all, rising, many)
			asked(t, back, falling, many)
		}
		asked(t, all, rising, len(rising))
		asked(t, back, falling, len(falling))
	}
}

// asked asks for so many numbers, and turns down one more, if there is one.
func asked(t *testing.T, come func(func(int) bool), want []int, many int) {
	t.Helper()
	var got []int
	calls := 0
	come(func(n int) bool {
		if calls++; calls > many {
			return false
		}
		got = append(got, n)
		return true
	})
	if calls != min(many+1, len(want)) || !slices.Equal(got, want[:many]) {
		t.Fatal(want, many, calls, got)
	}
}

// P10.2: one range within another one, of the same numbers, each go through all of them.
func TestWithin(t *testing.T) {
	s := bits.Of(0, 20, 63)
	all, back := s.All(), s.Back()
	var rising, falling []int
	for n := range all {
		for m := range all {
			rising = append(rising, n, m)
		}
	}
	for n := range back {
		for m := range back {
			falling = append(falling, n, m)
		}
	}
	if want := []int{0, 0, 0, 20, 0, 63, 20, 0, 20, 20, 20, 63, 63, 0, 63, 20, 63, 63}; !slices.Equal(rising, want) {
		t.Error(rising)
	}
	if want := []int{63, 63, 63, 20, 63, 0, 20, 63, 20, 20, 20, 0, 0, 63, 0, 20, 0, 0}; !slices.Equal(falling, want) {
		t.Error(falling)
	}
}

// P10.2: a range goes through the set that it was made of, whatever comes of a variable that held it.
func TestMade(t *testing.T) {
	s := bits.Of(2, 4)
	all, back := s.All(), s.Back()
	s = s.With(3).Without(4)
	if got := slices.Collect(all); !slices.Equal(got, []int{2, 4}) {
		t.Error(got)
	}
	if got := slices.Collect(back); !slices.Equal(got, []int{4, 2}) {
		t.Error(got)
	}
	for n := range s.All() {
		s = s.With(n + 10).Without(3)
	}
	if s != bits.Of(2, 12, 13) {
		t.Error(s.Show())
	}
}

// P10.2: each list is new memory, its spare room, too.
func TestList(t *testing.T) {
	s := bits.Of(1, 2, 3, 40, 41)
	a, b := s.List(), s.List()
	a = append(a[:0], 9, 9, 9, 9, 9, 9)
	b = append(b, 7)
	if want := []int{1, 2, 3, 40, 41}; !slices.Equal(b[:5], want) || !slices.Equal(s.List(), want) || a[5] != 9 {
		t.Error(a, b, s.List())
	}
}
