package reading

import (
	"whirligig/api"
	"whirligig/bits"
	"whirligig/chart"
	"whirligig/dice"
	"whirligig/snap"
	"whirligig/table"
	"whirligig/val"
)

// Table is the table of a chart, and whether it is valid.
func Table(text string) (table.Table, bool) {
	c, e, _ := chart.Parse(text)
	if e != api.OK {
		return table.Table{}, false
	}
	t, e := table.Make(c)
	return t, e == api.OK
}

// Both are the table of a chart that is valid, and what its text tells.
func Both(text string) (table.Table, *Chart) {
	t, _ := Table(text)
	return t, Read(text)
}

// Charts are so many valid charts, made by chance, of up to so many states.
func Charts(seed, many, most int) []string {
	c := dice.Charts{Dice: dice.Dice(seed)}
	var l []string
	for len(l) < many {
		text := c.Text(1 + c.Below(most))
		if t, ok := Table(text); ok && len(t.Rows) <= most+1 {
			l = append(l, text)
		}
	}
	return l
}

// some are states that can be active together within one, made by chance.
func (c *Chart) some(d *dice.Dice, in *State) bits.Set {
	kids := in.States()
	if in.Compound() {
		kids = []*State{dice.One(d, kids)}
	}
	var s bits.Set
	for _, k := range kids {
		s |= 1<<k.At | c.some(d, k)
	}
	return s
}

// Chance is a snapshot made by chance: states that can be active together, histories that remember what they once would, or nothing, and variables that have what their kinds may.
func (c *Chart) Chance(d *dice.Dice) snap.Snap {
	s := snap.Snap{Status: snap.Running, In: c.some(d, c.All[0]), Past: make([]bits.Set, len(c.All))}
	for _, h := range c.All {
		// What is around all states is never left.
		if h.IsPast() && h.In != c.All[0] && d.Below(3) > 0 {
			was := snap.Snap{In: c.some(d, h.In), Past: s.Past}
			s.Past[h.At] = c.Remember(was, 1<<h.In.At)[h.At]
		}
	}
	for _, v := range c.Vars {
		s.Data = append(s.Data, value(d, v.V.Kind))
	}
	return s
}

// value is a value of a kind, made by chance.
func value(d *dice.Dice, kind int) val.Value {
	switch kind {
	case val.Int:
		return val.Of(dice.One(d, []int64{0, 0, 1, 7, -1, 1<<63 - 1, -1 << 63}))
	case val.Bool:
		return val.Truth(d.Below(2) == 0)
	}
	return val.Word(d.Pick("", "a", "b", "ab", "it is as long as any text may be, of 48 bytes.."))
}
