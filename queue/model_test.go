package queue_test

import (
	"math"

	"whirligig/api"
	"whirligig/dice"
	"whirligig/queue"
)

// plainPush is a queue behind which names are put one by one, each only if all have room.
func plainPush(l, more []string) ([]string, api.Errno) {
	var all []string
	for _, s := range l {
		all = append(all, s)
	}
	room := 8
	for range l {
		room--
	}
	for range more {
		room--
	}
	if room < 0 {
		return all, api.ErrFull
	}
	for _, s := range more {
		all = append(all, s)
	}
	return all, api.OK
}

// ahead tells whether a timer comes ahead of another one, whatever their names are.
func ahead(a, b queue.Timer) bool {
	return a.Due < b.Due || a.Due == b.Due && a.Seq < b.Seq
}

// inOrder are timers, the least of those that are left taken again and again; of several the first.
func inOrder(l []queue.Timer) []queue.Timer {
	taken := make([]bool, len(l))
	var all []queue.Timer
	for range l {
		least := -1
		for i, t := range l {
			if !taken[i] && (least < 0 || ahead(t, l[least])) {
				least = i
			}
		}
		taken[least] = true
		all = append(all, l[least])
	}
	return all
}

// plainArm is a timer put among others that are in order.
func plainArm(l []queue.Timer, t queue.Timer) ([]queue.Timer, api.Errno) {
	var all []queue.Timer
	all = append(all, l...)
	if len(l) > 7 {
		return all, api.ErrFull
	}
	return inOrder(append(all, t)), api.OK
}

// plainCancel are those timers that have another name.
func plainCancel(l []queue.Timer, name string) []queue.Timer {
	var all []queue.Timer
	for _, t := range l {
		if t.Name != name {
			all = append(all, t)
		}
	}
	return all
}

// plainDue are the names of the first timers, as many as there are ahead of the first that isn't due, and the others.
func plainDue(l []queue.Timer, now int64) ([]string, []queue.Timer) {
	n := 0
	for n < len(l) && !(l[n].Due > now) {
		n++
	}
	var names []string
	for _, t := range l[:n] {
		names = append(names, t.Name)
	}
	return names, append([]queue.Timer{}, l[n:]...)
}

// times are some that are near to each other, and the ends of all.
func times() []int64 {
	return []int64{0, 1, 2, 3, 4, -1, api.MaxClock, api.MaxClock - 1, math.MaxInt64, math.MaxInt64 - 1, math.MinInt64, math.MinInt64 + 1}
}

// timer is one that is made by chance.
func timer(d *dice.Dice) queue.Timer {
	t := queue.Timer{Due: dice.One(d, times()[:5]), Seq: d.Below(3), Name: d.Pick("a", "b", "c", "a.b", "")}
	if d.Below(4) == 0 {
		t.Due = dice.One(d, times())
	}
	if d.Below(8) == 0 {
		t.Seq = dice.One(d, []int{-1, math.MaxInt, math.MinInt})
	}
	return t
}

// someTimers are so many of them, in order.
func someTimers(d *dice.Dice, n int) []queue.Timer {
	var l []queue.Timer
	for range n {
		l = append(l, timer(d))
	}
	return inOrder(l)
}

// someNames are so many of them.
func someNames(d *dice.Dice, n int) []string {
	var l []string
	for range n {
		l = append(l, d.Pick("a", "b", "a.b", "", "*", "\xff", "error.execution"))
	}
	return l
}
