package snap_test

import (
	"slices"
	"testing"

	"whirligig/bits"
	"whirligig/dice"
	"whirligig/snap"
	"whirligig/table"
)

// P14.2: which states of a chart can be active together.
func TestLegal(t *testing.T) {
	for _, c := range []struct {
		text  string
		legal []bits.Set
	}{
		{"chart c | state a | end", []bits.Set{bits.Of(1)}},
		{"chart c | final a | end", []bits.Set{bits.Of(1)}},
		{"chart c | state a | end | state b | end | final d | end", []bits.Set{bits.Of(1), bits.Of(2), bits.Of(3)}},
		{"chart c | deep h a | state a | end | shallow i a", []bits.Set{bits.Of(2)}},
		{"chart c | state a | state b | final d | end | end | end", []bits.Set{bits.Of(1, 2, 3)}},
		{"chart c | state a | state b | end | deep h b | state d | end | end | state e | end", []bits.Set{bits.Of(1, 2), bits.Of(1, 4), bits.Of(5)}},
		{"chart c | parallel p | state a | end | end", []bits.Set{bits.Of(1, 2)}},
		{"chart c | parallel p | state a | end | state b | end | state d | end | end", []bits.Set{bits.Of(1, 2, 3, 4)}},
		{"chart c | parallel p | state a | state b | end | state d | end | end | state e | final f | end | final g | end | end | end", []bits.Set{bits.Of(1, 2, 3, 5, 6), bits.Of(1, 2, 3, 5, 7), bits.Of(1, 2, 4, 5, 6), bits.Of(1, 2, 4, 5, 7)}},
		{"chart c | parallel p | parallel q | state a | end | state b | end | end | state d | parallel r | state e | end | end | state f | end | end | end | state g | end", []bits.Set{bits.Of(1, 2, 3, 4, 5, 6, 7), bits.Of(1, 2, 3, 4, 5, 8), bits.Of(9)}},
		{door, []bits.Set{bits.Of(1, 2), bits.Of(4, 5, 7, 8, 9), bits.Of(10)}},
	} {
		x, m := made(t, c.text)
		if m.ways(0) != len(c.legal) {
			t.Fatal(c.text, m.ways(0))
		}
		for s := range bits.Set(1 << (len(m.states) + 1)) {
			if got := (snap.Snap{Status: snap.Running, In: s}).Legal(x); got != slices.Contains(c.legal, s) {
				t.Error(c.text, s.Show(), got)
			}
		}
	}
}

// P14.2: of small charts made by chance all sets of states, the root and a place of none among them.
func TestLegalAll(t *testing.T) {
	parallel, pasts, several := 0, 0, 0
	for _, text := range charts(8, 200, 9) {
		x, m := made(t, text)
		legal := 0
		for s := range bits.Set(1 << (len(m.states) + 1)) {
			got := (snap.Snap{In: s}).Legal(x)
			if got != m.legal(s) {
				t.Fatal(text, s.Show(), got)
			}
			if got {
				legal++
			}
		}
		if legal != m.ways(0) {
			t.Fatal(text, legal, m.ways(0))
		}
		if legal > 2 {
			several++
		}
		for i, n := range m.states {
			if n.word == "parallel" {
				parallel++
			}
			if m.past(i) {
				pasts++
			}
		}
	}
	if parallel < 50 || pasts < 50 || several < 50 {
		t.Error(parallel, pasts, several)
	}
}

// P14.2: of greater charts sets of states that can be active together, and others that nearly can: no two that can part in one state alone.
func TestLegalAny(t *testing.T) {
	d := dice.Dice(9)
	both := [2]int{}
	for _, text := range charts(9, 150, 48) {
		x, m := made(t, text)
		for range 20 {
			s := m.some(&d, 0)
			if !m.legal(s) || !(snap.Snap{In: s}).Legal(x) {
				t.Fatal(text, s.Show())
			}
			for n := range 64 {
				if one := s ^ 1<<n; m.legal(one) || (snap.Snap{In: one}).Legal(x) {
					t.Fatal(text, s.Show(), n)
				}
			}
			for range 20 {
				other := s ^ 1<<(1+d.Below(len(m.states)-1)) ^ 1<<(1+d.Below(len(m.states)-1))
				got := (snap.Snap{In: other}).Legal(x)
				if got != m.legal(other) {
					t.Fatal(text, other.Show(), got)
				}
				if got && other != s {
					both[0]++
				}
			}
			// Parts of two that can be: all that is in both, in one of them, in just one.
			o := m.some(&d, 0)
			for _, other := range []bits.Set{s & o, s | o, s ^ o, s &^ o} {
				got := (snap.Snap{In: other}).Legal(x)
				if got != m.legal(other) {
					t.Fatal(text, other.Show(), got)
				}
				if got {
					both[1]++
				}
			}
		}
	}
	if both[0] < 500 || both[1] < 500 {
		t.Error(both)
	}
}

// P14.2: nothing but the active states counts.
func TestLegalElse(t *testing.T) {
	x, _ := made(t, "chart c | state a | end")
	s := full()
	s.In = bits.Of(1)
	if !s.Legal(x) {
		t.Error(s)
	}
	for status := range 6 {
		if s.Status = status; !s.Legal(x) {
			t.Error(status)
		}
	}
	if s.In = 0; s.Legal(x) {
		t.Error(s)
	}
	// Where the root has no Kids none of them is active, whatever is.
	for _, in := range []bits.Set{0, 1, 2} {
		if (snap.Snap{In: in}).Legal(table.Table{Rows: make([]table.Row, 1)}) || (snap.Snap{In: in}).Legal(table.Table{}) {
			t.Error(in)
		}
	}
}
