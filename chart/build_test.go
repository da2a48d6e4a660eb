package chart_test

import (
	"slices"
	"strings"
	"testing"

	"whirligig/act"
	"whirligig/api"
	"whirligig/chart"
	"whirligig/line"
	"whirligig/val"
)

// holds holds what Parse tells of a text, and what comes of it is printed as, against what they should be; it answers the error.
func holds(t *testing.T, text string) api.Errno {
	t.Helper()
	c, e, at := chart.Parse(text)
	want, wantE, wantAt := expected(text)
	if !same(c, want) || e != wantE || at != wantAt {
		t.Fatalf("%q: %v %d %d, not %v %d %d", text, c, e, at, want, wantE, wantAt)
	}
	if e == api.OK {
		shown(t, c)
	}
	return e
}

// shown holds what a chart that was parsed is printed as against what it should be, and parses that again, if it is within the limits of a text.
func shown(t *testing.T, c chart.Chart) {
	t.Helper()
	text := chart.Print(c)
	if text != printed(c) {
		t.Fatalf("%q, not %q", text, printed(c))
	}
	l := strings.Split(text, "\n")
	if len(l) > 400 || slices.ContainsFunc(l, func(s string) bool { return len(s) > 400 }) {
		return
	}
	if again, e, at := chart.Parse(text); !same(again, c) || e != api.OK || at != 0 || chart.Print(again) != text {
		t.Fatalf("%q: %v %d %d, not %v", text, again, e, at, c)
	}
}

// fault is an error, and where it is told.
type fault struct {
	e  api.Errno
	at int
}

// tells holds what Parse tells of texts against faults.
func tells(t *testing.T, texts map[string]fault) {
	t.Helper()
	for text, want := range texts {
		c, e, at := chart.Parse(text)
		if e != want.e || at != want.at || e != api.OK && !same(c, chart.Chart{}) {
			t.Errorf("%.60q: %v %d %d, not %v", text, c, e, at, want)
		}
		holds(t, text)
	}
}

// P8.1: each part of a chart, by itself.
func TestParseParts(t *testing.T) {
	c, e, at := chart.Parse("  # a chart\n\nchart lamp off\nvar n - 7\n  var t 'a  b'\nvar n true\nstate off lit\n enter log 1;raise e\n on e go off lit inner do cancel e\n deep h off\n exit log 2\n enter log 3\n  final lit\n   auto if n>1\n   exit raise e\n  end\n on * do send e 5\nend\nshallow g off\nparallel off\nend")
	if e != api.OK || at != 0 {
		t.Fatal(e, at)
	}
	if !same(chart.Chart{Name: c.Name, Vars: c.Vars}, chart.Chart{Name: "lamp", Vars: []chart.Var{{"n", val.Of(-7)}, {"t", val.Word("a  b")}, {"n", val.Truth(true)}}}) {
		t.Error(c.Name, c.Vars)
	}
	type row struct {
		name                string
		kind, parent        int
		start               string
		enter, exit, transs string
	}
	rows := []row{
		{"lamp", line.Chart, -1, "off", "", "", ""},
		{"off", line.State, 0, "lit", "log 1 ; raise e|log 3|", "log 2|", "on e go off lit inner do cancel e|on * do send e 5|"},
		{"h", line.Deep, 1, "off", "", "", ""},
		{"lit", line.Final, 1, "", "", "raise e|", "auto if n > 1|"},
		{"g", line.Shallow, 0, "off", "", "", ""},
		{"off", line.Parallel, 0, "", "", "", ""},
	}
	if len(c.States) != len(rows) {
		t.Fatal(c.States)
	}
	for i, s := range c.States {
		r := row{name: s.Name, kind: s.Kind, parent: s.Parent, start: s.Start}
		for _, l := range s.Enter {
			r.enter += act.Show(l...) + "|"
		}
		for _, l := range s.Exit {
			r.exit += act.Show(l...) + "|"
		}
		for _, g := range s.Trans {
			r.transs += g.Show() + "|"
		}
		if r != rows[i] {
			t.Error(i, r, "not", rows[i])
		}
	}
	shown(t, c)
}

// P8.1: what lines are, and which of them say something.
func TestParseLines(t *testing.T) {
	long := "#" + times(399, "x")
	tells(t, map[string]fault{
		"chart c":                   {},
		"chart c\n":                 {},
		"\n\n  \n # x\nchart c":     {},
		"   chart   c   ":           {},
		"chart c\n#":                {},
		"chart c\n  #end":           {},
		"#chart d\nchart c":         {},
		"chart c\n# \x00\t\xff'":    {},
		"chart c\r":                 {api.ErrForm, 1},
		"chart c\n\r":               {api.ErrForm, 2},
		"chart c\n\t":               {api.ErrForm, 2},
		"chart c\n\t#":              {api.ErrForm, 2},
		"chart c\n\x00":             {api.ErrForm, 2},
		"chart c #":                 {api.ErrForm, 1},
		"chart c # x":               {api.ErrForm, 1},
		"chart c\n\u00a0":           {api.ErrForm, 2},
		"chart c\n\x0b":             {api.ErrForm, 2},
		"chart c\n" + long:          {},
		"chart c\n" + long + "x":    {api.ErrLong, 2},
		long + "\nchart c\n":        {},
		long + "x\nchart c":         {api.ErrLong, 1},
		long + "x":                  {api.ErrLong, 1},
		times(400, " "):             {api.ErrShort, 0},
		times(401, " "):             {api.ErrLong, 1},
		"chart c" + times(393, " "): {},
		"chart c" + times(394, " "): {api.ErrLong, 1},
		"chart c\nstate a" + times(393, " ") + "\nend": {},
		"chart c\nstate a" + times(394, " ") + "\nend": {api.ErrLong, 2},
		times(400, "x"):                  {api.ErrLong, 1},
		times(401, "x"):                  {api.ErrLong, 1},
		times(400, "7"):                  {api.ErrOver, 1},
		times(401, "7"):                  {api.ErrLong, 1},
		"chart c\nend" + times(397, " "): {api.ErrParent, 2},
		"chart c\nend" + times(398, " "): {api.ErrLong, 2},
		"chart c" + times(399, "\n"):     {},
		"chart c" + times(400, "\n"):     {api.ErrMany, 401},
		"chart c" + times(1000, "\n"):    {api.ErrMany, 401},
		times(399, "\n") + "chart c":     {},
		times(400, "\n") + "chart c":     {api.ErrMany, 401},
		times(399, "\n"):                 {api.ErrShort, 0},
		times(400, "\n"):                 {api.ErrMany, 401},
		times(400, "#\n") + "#":          {api.ErrMany, 401},
		times(400, "#\n") + long + "x":   {api.ErrMany, 401},
		times(399, "#\n") + long + "x":   {api.ErrLong, 400},
		times(400, "#\n") + "x":          {api.ErrMany, 401},
		times(399, "#\n") + "x":          {api.ErrWord, 400},
		times(398, "#\n") + "x\n#\n#":    {api.ErrWord, 399},
		times(399, "#\n") + "chart c\nx": {api.ErrMany, 401},
		times(1<<20, "#\n"):              {api.ErrMany, 401},
		times(1<<20, "x"):                {api.ErrLong, 1},
		"chart c\n" + times(1<<20, " "):  {api.ErrLong, 2},
	})
}

// P8.1: which line can stand where.
func TestParseParent(t *testing.T) {
	places := []string{"", "chart c\n", "chart c\nstate a\n", "chart c\nparallel a\n", "chart c\nfinal a\n", "chart c\nstate a\nend\n", "chart c\ndeep h a\n", "chart c\nstate a\ndeep h a\n"}
	for s, can := range map[string]string{
		"chart c":      "+.......",
		"var x 1":      ".+......",
		"state s t":    ".+++.+++",
		"parallel p":   ".+++.+++",
		"final f":      ".+++.+++",
		"deep h s":     ".+++.+++",
		"shallow h s":  ".+++.+++",
		"enter log 1":  "..+++..+",
		"exit raise e": "..+++..+",
		"on * go a":    "..+++..+",
		"auto":         "..+++..+",
		"end":          "..+++..+",
	} {
		for i, place := range places {
			text := place + s
			want := fault{api.ErrParent, 1 + strings.Count(text, "\n")}
			if can[i] == '+' {
				opens := strings.Count(text, "state")+strings.Count(text, "parallel")+strings.Count(text, "final") > strings.Count(text, "end")
				want = map[bool]fault{true: {api.ErrShort, 0}}[opens]
			}
			tells(t, map[string]fault{text: want, text + "\n#\n": want})
		}
	}
	tells(t, map[string]fault{
		"chart c\nvar x 1\n\nvar y 2":           {},
		"chart c\nvar x 1\nchart c":             {api.ErrParent, 3},
		"chart c\nvar x 1\nend":                 {api.ErrParent, 3},
		"#\nchart c\n\nchart c":                 {api.ErrParent, 4},
		"#\nvar x 1":                            {api.ErrParent, 2},
		"chart c\nfinal f\nend\nstate a\nend":   {},
		"chart c\nstate a\nfinal f\nend\nend":   {},
		"chart c\nstate a\nfinal f\nend\nfinal": {api.ErrForm, 5},
		"chart c\nstate a\nend\nend":            {api.ErrParent, 4},
		"chart c\nstate a\nend\nenter raise e":  {api.ErrParent, 4},
	})
}

// P8.1: how many there may be of each.
func TestParseMany(t *testing.T) {
	state := "state a\nend\n"
	in := "chart c\nstate a\n"
	texts := map[string]fault{
		"chart c" + times(16, "\nvar x 1"):                                                                  {},
		"chart c" + times(17, "\nvar x 1"):                                                                  {api.ErrMany, 18},
		"chart c" + times(16, "\nvar x 1") + "\n\nvar y 2":                                                  {api.ErrMany, 19},
		"chart c" + times(16, "\nvar x 1") + "\nstate a\nend":                                               {},
		"chart c" + times(16, "\nvar x 1") + "\nstate a\nvar x 1":                                           {api.ErrParent, 19},
		"chart c\n" + times(48, state):                                                                      {},
		"chart c\n" + times(49, state):                                                                      {api.ErrMany, 98},
		"chart c\n" + times(48, state) + "final f":                                                          {api.ErrMany, 98},
		"chart c\n" + times(48, "deep h a\n"):                                                               {},
		"chart c\n" + times(48, "deep h a\n") + "shallow h a":                                               {api.ErrMany, 50},
		"chart c\n" + times(47, state) + "final f\nend\nstate a":                                            {api.ErrMany, 98},
		"chart c\n" + times(48, state) + "var x 1":                                                          {api.ErrParent, 98},
		"chart c\n" + times(48, state) + "end":                                                              {api.ErrParent, 98},
		"chart c\n" + times(8, "state a\n") + times(8, "end\n"):                                             {},
		"chart c\n" + times(8, "state a\n") + "deep h a\n":                                                  {api.ErrDeep, 10},
		"chart c\n" + times(8, "state a\n") + "final a\n":                                                   {api.ErrDeep, 10},
		"chart c\n" + times(7, "parallel a\n") + "shallow h a\n" + times(7, "end\n"):                        {},
		"chart c\n" + times(7, "parallel a\n") + "final a\n" + times(8, "end\n"):                            {},
		"chart c\n" + times(8, "parallel a\n") + "shallow h a\n":                                            {api.ErrDeep, 10},
		"chart c\n" + times(8, "parallel a\n") + "end\nstate a\nend\n" + times(7, "end\n"):                  {},
		"chart c\n" + times(40, state) + times(8, "state a\n") + "state a":                                  {api.ErrMany, 90},
		"chart c\n" + times(39, state) + times(8, "state a\n") + "state a":                                  {api.ErrDeep, 88},
		in + times(8, "enter raise e\n") + times(8, "exit raise e\n") + "end":                               {},
		in + times(9, "enter raise e\n"):                                                                    {api.ErrMany, 11},
		in + times(9, "exit raise e\n"):                                                                     {api.ErrMany, 11},
		in + times(8, "exit raise e\n") + times(9, "enter raise e\n"):                                       {api.ErrMany, 19},
		in + times(8, "enter raise e\n") + times(9, "exit raise e\n"):                                       {api.ErrMany, 19},
		in + times(8, "enter raise e\n") + "state b\n" + times(8, "enter raise e\n") + "end\nenter raise e": {api.ErrMany, 21},
		in + times(8, "enter raise e\n") + "state b\n" + times(8, "enter raise e\n") + "end\nend":           {},
		in + "enter " + times(7, "raise e;") + "raise e\n" + times(7, "enter raise e\n") + "end":            {},
		in + "enter " + times(8, "raise e;") + "raise e\nend":                                               {api.ErrMany, 3},
		in + times(96, "on e\n") + "end":                                                                    {},
		in + times(97, "on e\n") + "end":                                                                    {api.ErrMany, 99},
		in + times(97, "auto\n") + "end":                                                                    {api.ErrMany, 99},
		in + times(96, "auto\n") + "on e":                                                                   {api.ErrMany, 99},
		in + times(48, "on e\n") + "state b\n" + times(48, "auto\n") + "end\nend":                           {},
		in + times(48, "on e\n") + "state b\n" + times(49, "auto\n"):                                        {api.ErrMany, 100},
		in + times(48, "on e\n") + "state b\n" + times(48, "auto\n") + "end\non *":                          {api.ErrMany, 101},
		in + times(96, "on e\n") + "end\nstate b\nend\nauto":                                                {api.ErrParent, 102},
		in + times(96, "on e\n") + "end\nfinal b\nauto":                                                     {api.ErrMany, 101},
		"chart c\n" + times(48, "final a\non e\nauto\nend\n"):                                               {},
		"chart c\n" + times(48, "final a\non e\nauto\nend\n") + "on e":                                      {api.ErrParent, 194},
		"chart c\n" + times(47, "final a\non e\nauto\nend\n") + "state b\non e\nauto\nauto":                 {api.ErrMany, 193},
	}
	// A state in a final one isn't there, however many and however deep there are.
	texts["chart c\n"+times(47, state)+"final f\nstate a"] = fault{api.ErrParent, 97}
	texts["chart c\n"+times(7, "state a\n")+"final f\nstate a"] = fault{api.ErrParent, 10}
	texts["chart c\n"+times(40, state)+times(7, "state a\n")+"final f\ndeep h a"] = fault{api.ErrParent, 90}
	tells(t, texts)
}

// P8.1: of a line, and of all lines, the first error is told.
func TestParseOrder(t *testing.T) {
	long := "#" + times(400, "x")
	tells(t, map[string]fault{
		"state 7":              {api.ErrForm, 1},
		"foo":                  {api.ErrWord, 1},
		"enter send e 1048577": {api.ErrRange, 1},
		"on e go a b c d f":    {api.ErrMany, 1},
		"chart":                {api.ErrForm, 1},
		"chart chart":          {api.ErrForm, 1},
		"chart c\nchart 7":     {api.ErrForm, 2},
		"chart c\nend end":     {api.ErrForm, 2},
		"chart c\nauto go":     {api.ErrForm, 2},
		"chart c\non e if " + times(8, "-") + "1":             {api.ErrDeep, 2},
		"chart c\nenter log 99999999999999999999":             {api.ErrOver, 2},
		"chart c\nvar x 'a":                                   {api.ErrShort, 2},
		"chart c\nstate aaaaaaaaaaaaaaaaa":                    {api.ErrLong, 2},
		"chart c\nstate a\nvar x":                             {api.ErrForm, 3},
		"chart c\nfinal f\nstate 7":                           {api.ErrForm, 3},
		"chart c\nfinal f\nstate a\n7":                        {api.ErrParent, 3},
		"chart c\nend\nfoo":                                   {api.ErrParent, 2},
		"chart c\nfoo\nend":                                   {api.ErrWord, 2},
		"chart c\nfoo\n" + long:                               {api.ErrWord, 2},
		"chart c\n" + long + "\nfoo":                          {api.ErrLong, 2},
		"chart c\nend" + times(400, "\n"):                     {api.ErrParent, 2},
		"chart c" + times(400, "\n") + "end":                  {api.ErrMany, 401},
		"chart c\nstate a" + times(399, "\n"):                 {api.ErrMany, 401},
		"chart c\nstate a" + times(398, "\n"):                 {api.ErrShort, 0},
		"chart c\nstate a\nstate b\nend":                      {api.ErrShort, 0},
		"":                                                    {api.ErrShort, 0},
		"#chart c":                                            {api.ErrShort, 0},
		"\n":                                                  {api.ErrShort, 0},
		"chart c\n" + times(48, "state a\nend\n") + "state 7": {api.ErrForm, 98},
		"chart c\n" + times(8, "state a\n") + "state 7":       {api.ErrForm, 10},
		"chart c" + times(16, "\nvar x 1") + "\nvar x":        {api.ErrForm, 18},
		"chart c\nstate a\n" + times(96, "on e\n") + "on":     {api.ErrForm, 99},
		"chart c\nstate a\n" + times(8, "enter raise e\n") + "enter log 1; send e 1048577": {api.ErrRange, 11},
	})
}

// P8.1, P8.2: all rows of a few lines.
func TestParseShort(t *testing.T) {
	few := []string{"var x 1", "state a", "final f", "deep h a", "enter raise e", "on e go a", "end"}
	all := append(few, "chart c s", "parallel p", "shallow g a", "exit log x", "auto", "", "x")
	found := map[api.Errno]int{}
	var goOn func(text string, lines []string, more int)
	goOn = func(text string, lines []string, more int) {
		found[holds(t, text)]++
		for _, s := range lines {
			if more > 0 {
				goOn(text+"\n"+s, lines, more-1)
			}
		}
	}
	for _, s := range all {
		goOn(s, all, 2)
	}
	goOn("chart c", all, 4)
	goOn("chart c", few, 6)
	goOn("chart c\nstate a", all, 4)
	if found[api.OK] < 2000 || found[api.ErrShort] < 20000 || found[api.ErrParent] < 50000 || found[api.ErrWord] < 10000 || len(found) != 4 {
		t.Error(found)
	}
}

// P8.1, P8.2: long texts, most of which are right, some with one line that is another one.
func TestParseLong(t *testing.T) {
	found := map[api.Errno]int{}
	kinds := map[int]int{}
	c := chance{1}
	for range 6000 {
		l := c.lines(10 + c.Below(120))
		for range c.Below(2) * c.Below(3) {
			other := c.Pick("chart c", "var x 1", "state a", "parallel p", "final f", "deep h a", "enter raise e", "exit raise e", "on e", "auto", "end", "foo", "on e go a b c d e", "state 7", "enter send e 1048577", times(401, "x"))
			switch at := c.Below(len(l)); c.Below(4) {
			case 0:
				l[at] = other
			case 1:
				l = slices.Insert(l, at, other)
			case 2:
				l = slices.Delete(l, at, at+1)
			case 3:
				l = slices.Insert(l, at, l[at])
			}
		}
		text := strings.Join(l, "\n") + c.Maybe("\n")
		found[holds(t, text)]++
		got, _, _ := chart.Parse(text)
		for _, s := range got.States {
			kinds[s.Kind]++
		}
	}
	for _, e := range []api.Errno{api.OK, api.ErrForm, api.ErrWord, api.ErrMany, api.ErrRange, api.ErrDeep, api.ErrShort, api.ErrParent, api.ErrLong} {
		if found[e] < 10 {
			t.Error(e, found)
		}
	}
	for _, k := range []int{line.State, line.Parallel, line.Final, line.Deep, line.Shallow} {
		if kinds[k] < 1000 {
			t.Error(k, kinds)
		}
	}
}

// P8.1, P8.2: charts with as much in them as there may be, some with one line more.
func TestParseGreat(t *testing.T) {
	found := map[api.Errno]int{}
	c := chance{3}
	for range 60 {
		l := c.great()
		if c.Below(2) == 0 {
			other := c.Pick("state a", "deep h a", "enter raise e", "on e", "auto", "#")
			l = slices.Insert(l, 18+c.Below(len(l)-18), other)
		}
		found[holds(t, strings.Join(l, "\n"))]++
	}
	if found[api.OK] < 15 || found[api.ErrMany] < 15 {
		t.Error(found)
	}
}

// P8.1, P1: of whatever bytes, each call ends.
func TestParseWild(t *testing.T) {
	c := chance{2}
	for range 3000 {
		b := []byte(strings.Join(c.lines(40), "\n"))
		for range c.Below(3) {
			b[c.Below(len(b))] = byte(c.Below(256))
		}
		holds(t, string(b))
	}
}

// An answer is new, each time.
func TestParseNew(t *testing.T) {
	const text = "chart c\nvar x 1\nstate a\n  enter raise e\n  on e go a\nend\n"
	a, _, _ := chart.Parse(text)
	b, _, _ := chart.Parse(text)
	a.Name, a.Vars[0].Name, a.States[1].Name = "z", "z", "z"
	a.States[1].Enter[0], a.States[1].Trans[0] = nil, line.Trans{}
	_ = append(a.States[:1], chart.State{})
	if chart.Print(b) != text {
		t.Error(chart.Print(b))
	}
}
