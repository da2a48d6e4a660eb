package event_test

import "whirligig/dice"

// plainParts are a name's parts, gone through byte by byte.
func plainParts(name string) []string {
	l := []string{""}
	for i := range len(name) {
		if name[i] == '.' {
			l = append(l, "")
			continue
		}
		l[len(l)-1] += name[i : i+1]
	}
	return l
}

// named is a name with its parts.
type named struct {
	name  string
	parts []string
}

// nameOf is a name with its parts.
func nameOf(name string) named { return named{name, plainParts(name)} }

// calls tells whether one event calls for another one: the parts of this one begin with all of that one's.
func (e named) calls(n named) bool {
	if e.name == "" || n.name == "" {
		return false
	}
	if e.name == "*" {
		return true
	}
	for i, p := range e.parts {
		if i == len(n.parts) || p != n.parts[i] {
			return false
		}
	}
	return true
}

// firstOf is the place of the first of some that call for an event; -1: none.
func firstOf(n named, l []named) int {
	for i, e := range l {
		if e.calls(n) {
			return i
		}
	}
	return -1
}

// all are the events whose names have at most so many bytes, all of them some given ones.
func all(most int, of string) []named {
	names := []string{""}
	for from := 0; most > 0; most-- {
		to := len(names)
		for _, s := range names[from:to] {
			for i := range len(of) {
				names = append(names, s+of[i:i+1])
			}
		}
		from = to
	}
	var l []named
	for _, s := range names {
		l = append(l, nameOf(s))
	}
	return l
}

// longer is an event of some parts, made by chance.
func longer(d *dice.Dice) named {
	name := d.Maybe("error")
	for range d.Below(7) {
		name += d.Pick(".", ".", ".", "..", "", "*") + d.Pick("a", "a", "b", "done", "state", "execution", "x_1", "\xff", "\x00", "é", " ", "*", "")
	}
	return nameOf(name)
}

// beside is an event that is near to another one: it has more, or less, or the same.
func beside(d *dice.Dice, e named) named {
	cut := d.Below(len(e.name) + 1)
	switch d.Below(5) {
	case 0:
		return e
	case 1:
		return nameOf(e.name[:cut])
	case 2:
		return nameOf(e.name + d.Pick(".a", "a", ".", "*", ".*", "\x00", ". "))
	case 3:
		return nameOf(e.name[:cut] + d.Pick(".", "a", "*", "\xff") + e.name[cut:])
	}
	return nameOf(e.name[cut:])
}
