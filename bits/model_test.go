package bits_test

import (
	"fmt"
	"math"
	"slices"
	"strings"
	"testing"

	"whirligig/bits"
	"whirligig/dice"
)

// plain is a set told by a truth for each number.
type plain [64]bool

// plainOf is the plain set of those of some numbers that may be in one.
func plainOf(l ...int) plain {
	var p plain
	for n := range p {
		p[n] = slices.Contains(l, n)
	}
	return p
}

// both is, for each number, what is to be of it by whether it is in one plain set, and in another one.
func both(p, q plain, is func(a, b bool) bool) plain {
	var out plain
	for n := range out {
		out[n] = is(p[n], q[n])
	}
	return out
}

// numbers are those that are in a plain set, rising.
func (p plain) numbers() []int {
	var l []int
	for n, in := range p {
		if in {
			l = append(l, n)
		}
	}
	return l
}

// number is the sum of the bits of a plain set.
func (p plain) number() uint64 {
	sum, bit := uint64(0), uint64(1)
	for _, in := range p {
		if in {
			sum += bit
		}
		bit += bit
	}
	return sum
}

// show is a plain set as a text.
func (p plain) show() string {
	return strings.ReplaceAll(strings.Trim(fmt.Sprint(p.numbers()), "[]"), " ", ",")
}

// never are numbers that are in no set; what many of them end with, in fewer bits, could be in one.
func never() []int {
	l := []int{math.MinInt, math.MinInt32, math.MaxInt, math.MaxInt32}
	for _, far := range []int{-1 << 31, -1 << 16, -1 << 15, -256, -128, -64, 64, 128, 192, 256, 1 << 15, 1 << 16, math.MaxInt - 63, math.MaxInt32 - 63, math.MaxInt/2 + 1} {
		for n := range 64 {
			l = append(l, far+n)
		}
	}
	for n := range 64 {
		l = append(l, math.MinInt+n)
	}
	return l
}

// holds holds all that a set tells of itself against a plain one.
func holds(t *testing.T, s bits.Set, want plain) {
	t.Helper()
	l := want.numbers()
	if uint64(s) != want.number() || s.Count() != len(l) {
		t.Fatalf("%x, of %d numbers: should have %v", uint64(s), s.Count(), l)
	}
	for n, in := range want {
		if s.Has(n) != in {
			t.Fatalf("%v: has %d: %v", l, n, !in)
		}
	}
	first := -1
	if len(l) > 0 {
		first = l[0]
	}
	if s.First() != first {
		t.Fatalf("%v: first is %d", l, s.First())
	}
	if got := s.List(); !slices.Equal(got, l) {
		t.Fatalf("%v: list is %v", l, got)
	}
	if got := slices.Collect(s.All()); !slices.Equal(got, l) {
		t.Fatalf("%v: all are %v", l, got)
	}
	if got := s.Show(); got != want.show() {
		t.Fatalf("%v: shown as %q", l, got)
	}
	slices.Reverse(l)
	if got := slices.Collect(s.Back()); !slices.Equal(got, l) {
		t.Fatalf("%v: back are %v", l, got)
	}
}

// some are sets' numbers: none, all, each by itself, all but each, all from each on, few and many of those that are near an edge, and some made by chance.
func some() [][]int {
	var all []int
	for n := range 64 {
		all = append(all, n)
	}
	out := [][]int{nil, all}
	for n := range all {
		out = append(out, []int{n}, slices.Delete(slices.Clone(all), n, n+1), all[n:], all[:n])
	}
	edges := []int{0, 1, 31, 32, 62, 63}
	for which := range 1 << len(edges) {
		var l []int
		for i, n := range edges {
			if which>>i&1 == 1 {
				l = append(l, n)
			}
		}
		out = append(out, l)
	}
	d := dice.Dice(10)
	for range 200 {
		var l []int
		for range d.Below(40) {
			l = append(l, d.Below(64))
		}
		out = append(out, l)
	}
	return out
}
