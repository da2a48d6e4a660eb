package reading_test

import (
	"slices"
	"strings"
	"testing"

	"whirligig/bits"
	"whirligig/dice"
	"whirligig/line"
	"whirligig/queue"
	"whirligig/reading"
	"whirligig/snap"
	"whirligig/val"
)

const text = `# What says nothing is left out.
chart c p

var n 0
parallel p
  on e go z
  state q
    on f if n / n = 1 go b
    state a
      on e go h
    end
    state b
    end
    deep h b
  end
  state r
    on e.f
    on * go r inner
  end
end
final z
end
`

func TestRead(t *testing.T) {
	c := reading.Read(text)
	var names, ways []string
	for i, n := range c.All {
		if n.At != i {
			t.Error(i, n.At)
		}
		names = append(names, n.Name)
	}
	for i, w := range c.Ways {
		if w.At != i || len(w.To) != len(w.Goes) {
			t.Error(i, w)
		}
		ways = append(ways, w.Source.Name+" "+w.Show())
	}
	if s := strings.Join(names, " "); s != "c p q a b h r z" {
		t.Error(s)
	}
	if s := strings.Join(ways, ", "); s != "p on e go z, q on f if n / n = 1 go b, a on e go h, r on e.f, r on * go r inner" {
		t.Error(s)
	}
	if len(c.Vars) != 1 || c.Vars[0].Name != "n" {
		t.Error(c.Vars)
	}
	h, b := c.All[5], c.All[4]
	if !h.IsPast() || h.Atomic() || h.In != c.All[2] || c.First(h) != b || !b.Atomic() || !b.Within(c.All[1]) || b.Within(b) || c.All[1].Compound() || !c.All[2].Compound() {
		t.Error(h, b)
	}
}

func TestSelect(t *testing.T) {
	c := reading.Read(text)
	s := snap.Snap{In: bits.Of(1, 2, 3, 6), Past: make([]bits.Set, 8), Data: []val.Value{val.Of(0)}}
	if got := c.Begins(); got != s.In {
		t.Error(got.Show())
	}
	for name, want := range map[string]struct {
		ways   []int
		errors int
	}{"e": {[]int{2}, 0}, "e.f": {[]int{2, 3}, 0}, "f": {[]int{4}, 1}, "": {}} {
		var ways []int
		p := c.Select(s, name)
		for _, w := range p.Ways {
			ways = append(ways, w.At)
		}
		if !slices.Equal(ways, want.ways) || p.Errors != want.errors {
			t.Error(name, ways, p.Errors)
		}
	}
}

func TestExecute(t *testing.T) {
	c := reading.Read("chart c\nvar n 0\nstate a\nexit raise f ; raise f ; raise f ; raise f ; raise f ; raise f ; raise f\nenter set n n + 1 ; send g 5 ; send h 2 ; log n / 0 ; raise no\nenter if n = 2 : raise no ; if in(a) : send k 0 ; log in(a)\nenter cancel g\nexit raise last\nend")
	n := c.All[1]
	s := snap.Snap{Clock: 3, In: bits.Of(1), Data: []val.Value{val.Of(0)}}
	o, ok := c.Execute(s, n.Enter...)
	want := snap.Snap{
		Clock: 3, Seq: 2, In: s.In, Data: []val.Value{val.Of(1)}, Inner: []string{"error.execution"}, Outer: []string{"k"},
		Timers: []queue.Timer{{Due: 5, Seq: 1, Name: "h"}}, Last: snap.Last{Out: []string{"true"}},
	}
	if !ok || !o.Same(want) {
		t.Error(o, ok)
	}
	if got, ok := c.Execute(s, n.Exit...); !ok || len(got.Inner) != 8 {
		t.Error(got, ok)
	}
	// There is room for seven more, but not for eight.
	if got, ok := c.Execute(o, n.Exit[0]); !ok || len(got.Inner) != 8 {
		t.Error(got, ok)
	}
	if got, ok := c.Execute(o, n.Exit...); ok || !got.Same(o) {
		t.Error(got, ok)
	}
}

// What is made by chance is valid, has all kinds of states, and comes again the same.
func TestChance(t *testing.T) {
	d := dice.Dice(1)
	g := reading.Grove{Vars: []string{"var n 0", "var s ''", "var b true"}, Heads: []string{"on e", "auto if in(#)"}}
	l := slices.Concat(reading.Charts(1, 50, 20), g.Charts(2, 50, 20))
	if !slices.Equal(l, slices.Concat(reading.Charts(1, 50, 20), g.Charts(2, 50, 20))) {
		t.Error("not the same")
	}
	kinds := map[int]int{}
	for _, text := range l {
		x, ok := reading.Table(text)
		c := reading.Read(text)
		if !ok || len(c.All) != len(x.Rows) || len(c.Ways) != len(x.Goes) {
			t.Fatal(text)
		}
		for _, n := range c.All {
			kinds[n.Kind]++
		}
		for range 10 {
			s := c.Chance(&d)
			if !s.Legal(x) || len(s.Past) != len(x.Rows) || len(s.Data) != len(x.Vars) {
				t.Fatal(text, s)
			}
			for i, v := range s.Data {
				if !v.Right() || v.Kind != x.Vars[i].V.Kind {
					t.Fatal(text, v)
				}
			}
		}
	}
	for k := line.State; k <= line.Shallow; k++ {
		if kinds[k] < 50 {
			t.Error(k, kinds[k])
		}
	}
}
