package snap_test

import (
	"reflect"
	"slices"
	"strconv"
	"testing"

	"whirligig/bits"
	"whirligig/dice"
	"whirligig/queue"
	"whirligig/snap"
	"whirligig/val"
)

// parts are all fields of a snapshot, those of what the last move did among them.
func parts(s *snap.Snap) []reflect.Value {
	var l []reflect.Value
	of := func(v reflect.Value) {
		for i := range v.NumField() {
			if v.Field(i).Kind() != reflect.Struct {
				l = append(l, v.Field(i))
			}
		}
	}
	of(reflect.ValueOf(s).Elem())
	of(reflect.ValueOf(&s.Last).Elem())
	return l
}

// alike tells whether all fields of two snapshots are the same; nil and empty lists are.
func alike(a, b snap.Snap) bool {
	l := parts(&b)
	for i, p := range parts(&a) {
		if p.Kind() == reflect.Slice && p.Len() == 0 && l[i].Len() == 0 {
			continue
		}
		if !reflect.DeepEqual(p.Interface(), l[i].Interface()) {
			return false
		}
	}
	return true
}

// same holds what Same tells of two snapshots, both ways about, against what it should.
func same(t *testing.T, a, b snap.Snap, want bool) {
	t.Helper()
	if a.Same(b) != want || b.Same(a) != want {
		t.Fatalf("%v and %v: the same isn't %v", a, b, want)
	}
}

// full is a snapshot in which all is set, and all is unlike.
func full() snap.Snap {
	return snap.Snap{
		Status: snap.Running, Moves: 7, Clock: 30, Seq: 2, In: bits.Of(1, 3),
		Past:   []bits.Set{0, 0, bits.Of(3), 0, bits.Of(4, 5)},
		Data:   []val.Value{val.Of(-1), val.Word("a"), val.Truth(true)},
		Inner:  []string{"e", "f.g", "e"},
		Outer:  []string{"h", "", "i"},
		Timers: []queue.Timer{{Due: 40, Seq: 0, Name: "t"}, {Due: 40, Seq: 1, Name: "t"}, {Due: 41, Seq: 0, Name: "u"}},
		Last:   snap.Last{Event: "e", Taken: []int{2, 0, 1}, Entered: bits.Of(1, 3), Out: []string{"1", "'b'", "true"}},
	}
}

// The chapter gives these fields, in this order, and no others.
func TestFields(t *testing.T) {
	var l []string
	s := full()
	for _, v := range []reflect.Type{reflect.TypeOf(s), reflect.TypeOf(s.Last)} {
		for i := range v.NumField() {
			f := v.Field(i)
			l = append(l, f.Name+" "+f.Type.String()+" "+strconv.FormatBool(f.Anonymous))
		}
	}
	want := []string{
		"Status int false", "Moves int false", "Clock int64 false", "Seq int false", "In bits.Set false", "Past []bits.Set false", "Data []val.Value false", "Inner []string false", "Outer []string false", "Timers []queue.Timer false", "Last snap.Last true",
		"Event string false", "Taken []int false", "Entered bits.Set false", "Out []string false",
	}
	if !slices.Equal(l, want) {
		t.Errorf("%q", l)
	}
}

// P14.1: nothing of a number, a set or a text may be otherwise.
func TestSamePlain(t *testing.T) {
	for _, of := range []func() snap.Snap{full, func() snap.Snap { return snap.Snap{} }} {
		a := of()
		same(t, a, of(), true)
		looked := 0
		for i := range parts(&a) {
			b := of()
			p := parts(&b)[i]
			switch p.Kind() {
			case reflect.Int, reflect.Int64:
				was := p.Int()
				for bit := range 64 {
					p.SetInt(was ^ 1<<bit)
					same(t, a, b, false)
				}
			case reflect.Uint64:
				was := p.Uint()
				for bit := range 64 {
					p.SetUint(was ^ 1<<bit)
					same(t, a, b, false)
				}
			case reflect.String:
				was := p.String()
				for _, s := range []string{was + "a", "a" + was, "f", "E", " "} {
					p.SetString(s)
					same(t, a, b, false)
				}
			default:
				continue
			}
			looked++
		}
		if looked != 7 {
			t.Error(looked)
		}
	}
}

// P14.1: of a list neither how many things it has, nor which, nor in which order may be otherwise.
func TestSameLists(t *testing.T) {
	a := full()
	looked := 0
	for i, is := range parts(&a) {
		if is.Kind() != reflect.Slice {
			continue
		}
		looked++
		for n := range is.Len() {
			// One thing less, wherever it stands; one that stands there twice.
			b := full()
			p := parts(&b)[i]
			p.Set(reflect.AppendSlice(p.Slice(0, n), is.Slice(n+1, is.Len())))
			same(t, a, b, false)
			b = full()
			p = parts(&b)[i]
			p.Set(reflect.AppendSlice(reflect.AppendSlice(reflect.MakeSlice(p.Type(), 0, 9), is.Slice(0, n+1)), is.Slice(n, is.Len())))
			same(t, a, b, false)
			// One that is zero, where none was.
			b = full()
			p = parts(&b)[i]
			was := p.Index(n).IsZero()
			p.Index(n).SetZero()
			same(t, a, b, was)
		}
		// Two of them the other way about.
		b := full()
		p := parts(&b)[i]
		p.Index(1).Set(is.Index(2))
		p.Index(2).Set(is.Index(1))
		same(t, a, b, false)
		// None at all; and nothing alike.
		p.SetZero()
		same(t, a, b, false)
		c := snap.Snap{}
		parts(&c)[i].Set(is)
		same(t, snap.Snap{}, c, false)
		// What has zeroes has more than what has nothing.
		parts(&c)[i].Set(reflect.MakeSlice(is.Type(), 1, 1))
		same(t, snap.Snap{}, c, false)
		parts(&c)[i].Set(reflect.MakeSlice(is.Type(), 0, 5))
		same(t, snap.Snap{}, c, true)
	}
	if looked != 7 {
		t.Error(looked)
	}
}

// P14.1: two parts that are otherwise don't make up for each other.
func TestSameTwo(t *testing.T) {
	a := full()
	all := parts(&a)
	for i := range all {
		for k := range i {
			b := full()
			parts(&b)[i].SetZero()
			parts(&b)[k].SetZero()
			same(t, a, b, false)
			c, d := snap.Snap{}, snap.Snap{}
			parts(&c)[i].Set(all[i])
			parts(&d)[k].Set(all[k])
			same(t, c, d, false)
			if all[i].Type() == all[k].Type() {
				parts(&d)[k].Set(all[i])
				same(t, c, d, false)
			}
		}
	}
}

// P14.1: all that a value, and a timer, has counts.
func TestSameThings(t *testing.T) {
	for _, change := range []func(s *snap.Snap){
		func(s *snap.Snap) { s.Data[0].Kind = val.Bool },
		func(s *snap.Snap) { s.Data[0].N = 1 },
		func(s *snap.Snap) { s.Data[0].S = "a" },
		func(s *snap.Snap) { s.Data[1].S = "" },
		func(s *snap.Snap) { s.Data[2].N = 0 },
		func(s *snap.Snap) { s.Timers[1].Due = 41 },
		func(s *snap.Snap) { s.Timers[1].Seq = 2 },
		func(s *snap.Snap) { s.Timers[1].Name = "u" },
		func(s *snap.Snap) { s.Timers[2].Seq = -1 },
		func(s *snap.Snap) { s.Past[0] = 1 },
		func(s *snap.Snap) { s.Past[4] = bits.Of(4) },
		func(s *snap.Snap) { s.Inner[2] = "" },
		func(s *snap.Snap) { s.Outer[1] = "h" },
		func(s *snap.Snap) { s.Taken[2] = -1 },
		func(s *snap.Snap) { s.Out[1] = "'b '" },
	} {
		s := full()
		change(&s)
		same(t, s, full(), false)
		same(t, s, s, true)
	}
}

// P14.1: snapshots made by chance are the same just if all of each is.
func TestSameAny(t *testing.T) {
	d := dice.Dice(4)
	for _, text := range charts(4, 40, 30) {
		_, m := made(t, text)
		for range 40 {
			a, b := m.chance(&d), m.chance(&d)
			same(t, a, b, alike(a, b))
			// Nearly the same: just one part of the other one.
			c := a
			at := d.Below(len(parts(&c)))
			parts(&c)[at].Set(parts(&b)[at])
			same(t, a, c, alike(a, c))
			same(t, a, a, true)
		}
	}
}

// P14.1: a copy has all that there was, and shares nothing with it, nor with another copy, nor one list with another one.
func TestCopy(t *testing.T) {
	for _, room := range []int{0, 1, 5} {
		a := full()
		all := parts(&a)
		for _, p := range all {
			if p.Kind() == reflect.Slice {
				// The spare room has something in it, too.
				l := reflect.MakeSlice(p.Type(), p.Len()+room, p.Len()+room)
				reflect.Copy(l, p)
				for k := p.Len(); k < l.Len(); k++ {
					l.Index(k).Set(p.Index(0))
				}
				p.Set(l.Slice(0, p.Len()))
			}
		}
		b, c := a.Copy(), a.Copy()
		if !alike(a, b) || !alike(a, c) || !alike(a, full()) {
			t.Fatal(a, b, c)
		}
		for i := range all {
			for _, s := range []*snap.Snap{&b, &c} {
				if scratchPart(parts(s)[i]); !alike(a, full()) {
					t.Fatal(i, a)
				}
			}
			spare := all[i]
			if spare.Kind() == reflect.Slice {
				for k, l := spare.Len(), spare.Slice(0, spare.Cap()); k < l.Len(); k++ {
					if !reflect.DeepEqual(l.Index(k).Interface(), l.Index(0).Interface()) {
						t.Fatal(i, k, l)
					}
				}
			}
			b, c = a.Copy(), a.Copy()
			scratchPart(parts(&b)[i])
			if !alike(c, full()) {
				t.Fatal(i, c)
			}
		}
	}
}

// scratchPart writes over all that a list has, and its spare room.
func scratchPart(p reflect.Value) {
	if p.Kind() != reflect.Slice {
		return
	}
	l := p.Slice(0, p.Cap())
	for i := range l.Len() {
		l.Index(i).SetZero()
	}
}

// P14.1: lists that are one and the same memory are none any more in a copy.
func TestCopyParts(t *testing.T) {
	l := []string{"a", "b", "c", "d"}
	s := snap.Snap{Inner: l[:2], Outer: l[2:], Last: snap.Last{Out: l}}
	c := s.Copy()
	c.Inner = append(c.Inner, "x", "y")
	c.Outer[0], c.Out[3] = "z", "z"
	want := snap.Snap{Inner: []string{"a", "b", "x", "y"}, Outer: []string{"z", "d"}, Last: snap.Last{Out: []string{"a", "b", "c", "z"}}}
	if !alike(c, want) || !slices.Equal(l, []string{"a", "b", "c", "d"}) {
		t.Error(c, l)
	}
	if c = (snap.Snap{}).Copy(); !alike(c, snap.Snap{}) || !c.Same(snap.Snap{}) {
		t.Error(c)
	}
}

// P14.1: copies of snapshots made by chance.
func TestCopyAny(t *testing.T) {
	d := dice.Dice(5)
	for _, text := range charts(5, 30, 30) {
		_, m := made(t, text)
		for range 30 {
			a := m.chance(&d)
			b := a.Copy()
			c := b.Copy()
			if !alike(a, b) || !b.Same(a) {
				t.Fatal(a, b)
			}
			for i := range parts(&b) {
				scratchPart(parts(&b)[i])
			}
			if !alike(a, c) {
				t.Fatal(a, c)
			}
		}
	}
}

// P14.1, P14.2: what is told is new memory, and what is handed in stays.
func TestMemory(t *testing.T) {
	x, m := made(t, door)
	vars, rows := slices.Clone(x.Vars), slices.Clone(x.Rows)
	a, b := snap.Begin(x), snap.Begin(x)
	for i := range a.Past {
		a.Past[i] = 9
	}
	clear(a.Data)
	if !b.Same(snap.Begin(x)) || !slices.Equal(x.Vars, vars) || b.Data[0] != val.Of(-3) || b.Past[0] != 0 {
		t.Error(b, x.Vars)
	}
	d := dice.Dice(6)
	s := m.chance(&d)
	s.In = bits.Of(1, 2, 4, 5)
	was := s.Copy()
	v, w := s.Env(x), s.Env(x)
	l, k := s.Lines(x), s.Lines(x)
	clear(v.Vars)
	clear(v.In)
	clear(l)
	if !slices.Equal(w.In, []string{"shut", "calm", "open", "left"}) || len(w.Vars) != 3 || w.Vars[0].Name != "n" || w.Vars[0].V != s.Data[0] {
		t.Error(w)
	}
	if !slices.Equal(k, m.lines(s)) || !alike(s, was) {
		t.Error(k, s)
	}
	if s.Legal(x); !alike(s, was) || !reflect.DeepEqual(x.Rows, rows) {
		t.Error(s)
	}
}
