package queue_test

import (
	"slices"
	"testing"

	"whirligig/queue"
)

// scratch writes over all that a list has, and its spare room.
func scratch[T any](l []T, with T) {
	l = l[:cap(l)]
	for i := range l {
		l[i] = with
	}
}

// roomy is a list of so many of some things, with the others behind it as its spare room.
func roomy[T any](n int, of ...T) []T { return slices.Clip(slices.Clone(of))[:n] }

// P13.1: what is told is new memory, and what is handed in stays, its spare room, too.
func TestNamesMemory(t *testing.T) {
	names := []string{"a", "b", "c", "d", "e", "f", "g", "h", "i", "j"}
	for n := range len(names) + 1 {
		for m := range len(names) + 1 {
			l, more := roomy(n, names...), roomy(m, names...)
			a, _ := queue.Push(l, more...)
			b, _ := queue.Push(l, more...)
			want := slices.Clone(a)
			scratch(a, "x")
			if !slices.Equal(b, want) {
				t.Fatal(n, m, b)
			}
			_, c, _ := queue.Pop(l)
			_, d, _ := queue.Pop(l)
			want = slices.Clone(c)
			scratch(c, "y")
			if !slices.Equal(d, want) || !slices.Equal(b[:min(n, len(b))], names[:min(n, len(b))]) {
				t.Fatal(n, m, b, d)
			}
			if !slices.Equal(l[:cap(l)], names) || !slices.Equal(more[:cap(more)], names) {
				t.Fatal(n, m, l[:cap(l)], more[:cap(more)])
			}
			scratch(b, "z")
			scratch(d, "z")
			if !slices.Equal(l[:cap(l)], names) || !slices.Equal(more[:cap(more)], names) {
				t.Fatal(n, m, l[:cap(l)], more[:cap(more)])
			}
		}
	}
}

// P13.2: what is told is new memory, and what is handed in stays, its spare room, too.
func TestTimersMemory(t *testing.T) {
	var all []queue.Timer
	for i := range 10 {
		all = append(all, queue.Timer{Due: int64(i), Seq: i, Name: []string{"a", "b"}[i%2]})
	}
	calls := map[string]func(l []queue.Timer, place int64) []queue.Timer{
		"arm": func(l []queue.Timer, place int64) []queue.Timer {
			got, _ := queue.Arm(l, queue.Timer{Due: place, Name: "n"})
			return got
		},
		"cancel a": func(l []queue.Timer, _ int64) []queue.Timer { return queue.Cancel(l, "a") },
		"cancel b": func(l []queue.Timer, _ int64) []queue.Timer { return queue.Cancel(l, "b") },
		"cancel c": func(l []queue.Timer, _ int64) []queue.Timer { return queue.Cancel(l, "c") },
		"due": func(l []queue.Timer, place int64) []queue.Timer {
			_, got := queue.Due(l, place)
			return got
		},
	}
	for name, call := range calls {
		for n := range len(all) + 1 {
			for place := int64(-1); place <= 10; place++ {
				l := roomy(n, all...)
				a, b := call(l, place), call(l, place)
				want := slices.Clone(a)
				scratch(a, queue.Timer{Name: "x"})
				if !slices.Equal(b, want) || !slices.Equal(l[:cap(l)], all) {
					t.Fatal(name, n, place, b, l[:cap(l)])
				}
				scratch(l, queue.Timer{Name: "y"})
				if !slices.Equal(b, want) {
					t.Fatal(name, n, place, b)
				}
			}
		}
	}
}
