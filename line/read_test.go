package line_test

import (
	"slices"
	"testing"

	"whirligig/api"
	"whirligig/line"
	"whirligig/tok"
	"whirligig/val"
)

// holds holds what Parse tells of a text, and what comes of it is shown by, against what they should be; it answers the error.
func holds(t *testing.T, s string) api.Errno {
	t.Helper()
	n, e := line.Parse(s)
	want, wantE := expected(s)
	if !same(n, want) || e != wantE {
		t.Fatalf("%q: %v %d, not %v %d", s, n, e, want, wantE)
	}
	if e != api.OK {
		return e
	}
	text := n.Text()
	if text != shown(n) {
		t.Fatalf("%q: %q, not %q", s, text, shown(n))
	}
	if again, e := line.Parse(text); !same(again, n) || e != api.OK || again.Text() != text {
		t.Fatalf("%q: %q: %v %d, not %v", s, text, again, e, n)
	}
	if moves := n.Kind == line.On || n.Kind == line.Auto; moves && (n.Show() != text || n.Trans.Show() != text) {
		t.Fatalf("%q: %q", s, n.Show())
	}
	return e
}

// P7.1, P7.2: all rows of a few tokens.
func TestParseShort(t *testing.T) {
	signs := lex("state var on if go inner do end a e.f 7 'a' - * true raise ( ;")
	found := map[api.Errno]int{}
	var goOn func(l []tok.Token, most int)
	goOn = func(l []tok.Token, most int) {
		found[holds(t, tok.Join(l...))]++
		for _, s := range signs {
			if len(l) < most {
				goOn(append(l[:len(l):len(l)], s), most)
			}
		}
	}
	goOn(nil, 3)
	for _, word := range []string{"chart", "var", "state", "parallel", "final", "deep", "shallow", "enter", "exit", "end"} {
		goOn(lex(word), 4)
	}
	goOn(lex("on"), 5)
	goOn(lex("auto"), 5)
	if found[api.OK] < 100 || found[api.ErrForm] < 100000 || found[api.ErrWord] < 1000 || len(found) != 3 {
		t.Error(found)
	}
}

// P7.1: which words a line begins with.
func TestParseFirst(t *testing.T) {
	for _, s := range []string{
		"", " ", "a", "a.b", "if", "go", "inner", "do", "set", "raise", "send", "cancel", "log", "true", "false", "not", "and", "or", "in", "*", "7", "-", ";", ":", "(", "''",
		"'chart' c", "'end'", "chart.c", "on.e", "end.end", "ends", "chartc", "state1", "c chart", "7 end", "- end", "; end", "( end )", "* e", "e go a", "if x go a", "'a' 'b'",
		"set x 1", "raise e", "a b c d e f g h", times(120, "a "), times(16, "a"),
	} {
		for _, x := range []string{s, "  " + s, s + "  "} {
			if n, e := line.Parse(x); e != api.ErrWord || !same(n, line.Line{}) {
				t.Errorf("%q: %v %d", x, n, e)
			}
			holds(t, x)
		}
	}
	for kind := 1; kind <= 12; kind++ {
		s := []string{1: "chart c", "var x 1", "state s", "parallel p", "final f", "deep h s", "shallow h s", "enter log 1", "exit log 1", "on e", "auto", "end"}[kind]
		if n, e := line.Parse(s); n.Kind != kind || e != api.OK {
			t.Error(s, n, e)
		}
		if n, e := line.Parse("   " + s + "  "); n.Kind != kind || e != api.OK {
			t.Error(s, n, e)
		}
	}
}

// P7.1: layer 2's errors, ahead of all others.
func TestParseTokens(t *testing.T) {
	for s, want := range map[string]api.Errno{
		"A":                                 api.ErrForm,
		"#":                                 api.ErrForm,
		"chart C":                           api.ErrForm,
		"foo 'a":                            api.ErrShort,
		"chart 'a":                          api.ErrShort,
		"end '":                             api.ErrShort,
		"on e go a b c d e '":               api.ErrShort,
		"on e do send f 9999999 '":          api.ErrShort,
		"var x 01":                          api.ErrForm,
		"var x 9223372036854775808":         api.ErrOver,
		"var x -9223372036854775808":        api.ErrOver,
		"state " + times(17, "a"):           api.ErrLong,
		"foo " + times(17, "a"):             api.ErrLong,
		"on a." + times(17, "a"):            api.ErrLong,
		"var x '" + times(49, "a") + "'":    api.ErrLong,
		"var x '\t'":                        api.ErrForm,
		"state\ts":                          api.ErrForm,
		"state s\n":                         api.ErrForm,
		"state s\r":                         api.ErrForm,
		"state \u00e4":                      api.ErrForm,
		"end\x00":                           api.ErrForm,
		times(121, "a "):                    api.ErrMany,
		times(121, "end "):                  api.ErrMany,
		"end" + times(119, " x"):            api.ErrForm,
		"end" + times(120, " x"):            api.ErrMany,
		times(1<<20, "("):                   api.ErrMany,
		"on e if " + times(113, "(") + "x":  api.ErrForm,
		"on e if " + times(200, "(") + "x)": api.ErrMany,
	} {
		if n, e := line.Parse(s); e != want || !same(n, line.Line{}) {
			t.Errorf("%.60q: %v %d, not %d", s, n, e, want)
		}
		holds(t, s)
	}
}

// P7.1: each kind, with just what is its own.
func TestParseKinds(t *testing.T) {
	for s, want := range map[string]line.Line{
		"chart c":                              {Kind: 1, Name: "c"},
		"chart c s":                            {Kind: 1, Name: "c", Start: "s"},
		"var x 0":                              {Kind: 2, Name: "x", V: val.Of(0)},
		"var x 9223372036854775807":            {Kind: 2, Name: "x", V: val.Of(1<<63 - 1)},
		"var x-9223372036854775807":            {Kind: 2, Name: "x", V: val.Of(1 - 1<<63)},
		"var x -0":                             {Kind: 2, Name: "x", V: val.Of(0)},
		"var x - 5":                            {Kind: 2, Name: "x", V: val.Of(-5)},
		"var x''":                              {Kind: 2, Name: "x", V: val.Word("")},
		"var x 'a  b'":                         {Kind: 2, Name: "x", V: val.Word("a  b")},
		"var x 'true'":                         {Kind: 2, Name: "x", V: val.Word("true")},
		"var x '-0'":                           {Kind: 2, Name: "x", V: val.Word("-0")},
		"var x '-5'":                           {Kind: 2, Name: "x", V: val.Word("-5")},
		"var x true":                           {Kind: 2, Name: "x", V: val.Truth(true)},
		"var x false":                          {Kind: 2, Name: "x", V: val.Truth(false)},
		"var x '" + times(48, "~") + "'":       {Kind: 2, Name: "x", V: val.Word(times(48, "~"))},
		"state s":                              {Kind: 3, Name: "s"},
		"state s s":                            {Kind: 3, Name: "s", Start: "s"},
		"state states parallel1":               {Kind: 3, Name: "states", Start: "parallel1"},
		"parallel p":                           {Kind: 4, Name: "p"},
		"final " + times(16, "f"):              {Kind: 5, Name: times(16, "f")},
		"deep h s":                             {Kind: 6, Name: "h", Start: "s"},
		"shallow h s":                          {Kind: 7, Name: "h", Start: "s"},
		"enter set x x+1;raise e":              {Kind: 8, Do: take("set x x+1;raise e")},
		"exit if x:log 'on e'":                 {Kind: 9, Do: take("if x : log 'on e'")},
		"on e":                                 {Kind: 10, Trans: line.Trans{Event: "e"}},
		"on *":                                 {Kind: 10, Trans: line.Trans{Event: line.Any}},
		"on*go a":                              {Kind: 10, Trans: line.Trans{Event: "*", Goes: []string{"a"}}},
		"on e.f":                               {Kind: 10, Trans: line.Trans{Event: "e.f"}},
		"on if.go":                             {Kind: 10, Trans: line.Trans{Event: "if.go"}},
		"on done.state.s":                      {Kind: 10, Trans: line.Trans{Event: "done.state.s"}},
		"on e if x":                            {Kind: 10, Trans: line.Trans{Event: "e", If: read("x")}},
		"on e if(x)and in(s)go a":              {Kind: 10, Trans: line.Trans{Event: "e", If: read("x and in(s)"), Goes: []string{"a"}}},
		"on e if - 1 < 2 inner":                {Kind: 10, Trans: line.Trans{Event: "e", If: read("-1 < 2"), Inner: true}},
		"on e go a b c d":                      {Kind: 10, Trans: line.Trans{Event: "e", Goes: []string{"a", "b", "c", "d"}}},
		"on e go a a inner":                    {Kind: 10, Trans: line.Trans{Event: "e", Goes: []string{"a", "a"}, Inner: true}},
		"on e go a b c d do log x":             {Kind: 10, Trans: line.Trans{Event: "e", Goes: []string{"a", "b", "c", "d"}, Do: take("log x")}},
		"on e inner":                           {Kind: 10, Trans: line.Trans{Event: "e", Inner: true}},
		"on e do if x:raise f":                 {Kind: 10, Trans: line.Trans{Event: "e", Do: take("if x : raise f")}},
		"on e if x do if y:raise f;log x":      {Kind: 10, Trans: line.Trans{Event: "e", If: read("x"), Do: take("if y : raise f ; log x")}},
		"on * if x go a b inner do send e.f 0": {Kind: 10, Trans: line.Trans{Event: "*", If: read("x"), Goes: []string{"a", "b"}, Inner: true, Do: take("send e.f 0")}},
		"auto":                                 {Kind: 11},
		"auto inner":                           {Kind: 11, Trans: line.Trans{Inner: true}},
		"auto if 'go'='inner' go s":            {Kind: 11, Trans: line.Trans{If: read("'go' = 'inner'"), Goes: []string{"s"}}},
		"auto do cancel e":                     {Kind: 11, Trans: line.Trans{Do: take("cancel e")}},
		"auto if 1 go s inner do log 2":        {Kind: 11, Trans: line.Trans{If: read("1"), Goes: []string{"s"}, Inner: true, Do: take("log 2")}},
		"end":                                  {Kind: 12},
	} {
		if n, e := line.Parse(s); !same(n, want) || e != api.OK {
			t.Error(s, n, e)
		}
		holds(t, s)
	}
}

// P7.1: what must stand behind the word, and doesn't.
func TestParseForm(t *testing.T) {
	for _, s := range []string{
		"chart", "chart if", "chart chart", "chart 'c'", "chart 7", "chart a.b", "chart *", "chart c 7", "chart c 's'", "chart c a.b", "chart c end", "chart a b c", "chart c ;", "chart true",
		"var", "var 7", "var 5 5", "var x", "var x y", "var x -", "var x - -5", "var x --5", "var x - 'a'", "var x - true", "var x -x", "var x +5", "var x (5)", "var x 5 5", "var x 1 + 1", "var x 5 -", "var x not true", "var x and", "var x a.b", "var in 5", "var a.b 5", "var 'x' 5", "var x = 5", "var x ;", "var x '' ''", "var x true false", "var -5",
		"state", "state end", "state 7", "state 's'", "state a.b", "state s 7", "state s t u", "state s 't'", "state s if", "state s *", "state s a.b", "state s ; state t",
		"parallel", "parallel p q", "parallel go", "parallel 'p'", "parallel a.b", "parallel p 7", "parallel p end",
		"final", "final f g", "final do", "final 'f'", "final a.b", "final f 7", "final f end",
		"deep", "deep h", "deep h 7", "deep 7 s", "deep h if", "deep h s t", "deep h 's'", "deep h a.b", "deep 'h' s", "deep h s 7",
		"shallow", "shallow h", "shallow h 7", "shallow 7 s", "shallow h if", "shallow h s t", "shallow h 's'", "shallow h a.b", "shallow 'h' s", "shallow h s 7",
		"enter", "enter e", "enter ;", "enter do raise e", "enter raise", "enter raise e f", "enter raise e go a", "enter raise e ;", "enter log 1 do log 1", "enter raise e : f", "enter set x", "enter 'log' 1", "enter if x raise e",
		"exit", "exit e", "exit ;", "exit do raise e", "exit raise", "exit raise e f", "exit raise e go a", "exit raise e ;", "exit log 1 do log 1", "exit raise e : f", "exit set x",
		"on", "on if", "on if x", "on go a", "on inner", "on do log 1", "on 7", "on 'e'", "on '*'", "on 'e.f'", "on -", "on on", "on ;", "on e f", "on * *", "on e *", "on e.*", "on * . e", "on e.f g.h", "on e 7", "on e 'f'", "on true", "on in",
		"on e if", "on e if go a", "on e if x y", "on e if a.b", "on e if x < y < z", "on e if x :", "on e if x : raise e", "on e if x if y", "on e if (x", "on e if x)", "on e if x +", "on e if 'a' 'b'", "on e if x and", "on e if in s",
		"on e go", "on e go 7", "on e go 'a'", "on e go a.b", "on e go *", "on e go if", "on e go inner", "on e go do log 1", "on e go a 7", "on e go a 'b'", "on e go a b.c", "on e go a , b", "on e go a ; b", "on e go a go b", "on e go a if x", "on e go a b c d 7", "on e go a b c d e.f", "on e go a b c d 'e'", "on e go a b c d if", "on e go a b c d go e", "on e go a inner b", "on e go a on f",
		"on e inner inner", "on e inner go a", "on e inner if x", "on e inner a", "on e inner 7", "on e inner ; log 1", "on e 'inner'",
		"on e do", "on e do e", "on e do ;", "on e do raise e f", "on e do log 1 inner", "on e do raise e go a", "on e do log 1 if x", "on e do log 1 do log 2", "on e do log 1 ;", "on e do raise", "on e do if x", "on e do if x raise e", "on e raise f", "on e ; f", "on e do log 1 end",
		"auto e", "auto *", "auto if", "auto if x y", "auto go", "auto go a if x", "auto inner go a", "auto inner e", "auto do", "auto do e", "auto 7", "auto 'e'", "auto auto", "auto go a 7", "auto on e", "auto e.f go a",
		"end x", "end end", "end 7", "end ;", "end 'x'", "end a.b", "end *",
	} {
		if n, e := line.Parse(s); e != api.ErrForm || !same(n, line.Line{}) {
			t.Errorf("%q: %v %d", s, n, e)
		}
		holds(t, s)
	}
}

// P7.1: the first part that is wrong is told.
func TestParseOrder(t *testing.T) {
	deep, many := times(8, "-")+"1", times(32, "-")+"1"
	eight := times(7, "raise e;") + "raise e"
	for s, want := range map[string]api.Errno{
		"on e go a b c d":                           api.OK,
		"on e go a b c d e":                         api.ErrMany,
		"on e go a a a a a":                         api.ErrMany,
		"auto go a b c d e":                         api.ErrMany,
		"on e go a b c d inner":                     api.OK,
		"on e go a b c d e inner":                   api.ErrMany,
		"on e go a b c d e 7":                       api.ErrMany,
		"on e go a b c d e f g h":                   api.ErrMany,
		"on e go a b c d e if":                      api.ErrMany,
		"on e go a b c d e do send f 1048577":       api.ErrMany,
		"on e go a b c d do send f 1048577":         api.ErrRange,
		"on e go a b c d e do " + eight + ";log 1":  api.ErrMany,
		"on e go a b c d 7 e":                       api.ErrForm,
		"on e go a b c if d e":                      api.ErrForm,
		"on e go a b c d inner e":                   api.ErrForm,
		"on e if x go a b c d e":                    api.ErrMany,
		"on e if " + deep:                           api.ErrDeep,
		"on e if " + many:                           api.ErrMany,
		"on e if " + deep[1:]:                       api.OK,
		"auto if " + deep:                           api.ErrDeep,
		"on e if " + deep + " go a b c d e":         api.ErrDeep,
		"on e if " + deep + " go 7":                 api.ErrDeep,
		"on e if " + deep + " 7":                    api.ErrDeep,
		"on e if " + many + " do log " + deep:       api.ErrMany,
		"on e if " + deep + " do log " + many:       api.ErrDeep,
		"on e if x y do log " + deep:                api.ErrForm,
		"on e do log " + deep:                       api.ErrDeep,
		"on e do log " + many:                       api.ErrMany,
		"on e do log " + deep + " go a":             api.ErrDeep,
		"on e do send f 1048577":                    api.ErrRange,
		"on e do send f 1048576":                    api.OK,
		"on e do send f 1048577 7":                  api.ErrRange,
		"on e do log " + deep + " ; send f 1048577": api.ErrDeep,
		"on e do send f 1048577 ; log " + deep:      api.ErrRange,
		"on e do " + eight:                          api.OK,
		"on e do " + eight + ";":                    api.ErrMany,
		"on e do " + eight + "; raise e":            api.ErrMany,
		"on e go 7 do send f 1048577":               api.ErrForm,
		"on e inner inner do send f 1048577":        api.ErrForm,
		"on if if " + deep:                          api.ErrForm,
		"on 7 go a b c d e":                         api.ErrForm,
		"on go a b c d e":                           api.ErrForm,
		"on a b c d e":                              api.ErrForm,
		"auto a go a b c d e":                       api.ErrForm,
		"enter " + eight:                            api.OK,
		"enter " + eight + ";":                      api.ErrMany,
		"exit " + eight + "; x":                     api.ErrMany,
		"enter log " + deep:                         api.ErrDeep,
		"exit log " + many:                          api.ErrMany,
		"enter send f 1048577":                      api.ErrRange,
		"exit send f 1048577 x":                     api.ErrRange,
		"enter x send f 1048577":                    api.ErrForm,
		"exit if " + deep + " : x":                  api.ErrDeep,
		"state go a b c d e":                        api.ErrForm,
		"chart a b c d e f":                         api.ErrForm,
		"deep a b c d e f":                          api.ErrForm,
	} {
		n, e := line.Parse(s)
		if e != want || e != api.OK && !same(n, line.Line{}) {
			t.Error(s, n, e, "not", want)
		}
		holds(t, s)
	}
}

// P7.1: around each token of some lines, all sorts of tokens.
func TestParseAround(t *testing.T) {
	signs := lex("chart var state end on auto enter if go inner do a e.f 7 1048577 'a' - + * ( ) : ; = true not in raise send log")
	found := map[api.Errno]int{}
	for _, s := range []string{
		"chart c s", "var x - 5", "var x 'a'", "state s t", "parallel p", "final f", "deep h s", "shallow h s", "enter set x x + 1 ; raise e", "exit if x : send e 5",
		"on e.f if a = 1 go b c d e inner do log x ; raise f", "on * go a", "auto if in ( s ) go a b c", "auto inner", "auto do cancel e", "end",
	} {
		whole := lex(s)
		for at := range len(whole) + 1 {
			found[holds(t, tok.Join(whole[:at]...))]++
			found[holds(t, tok.Join(whole[at:]...))]++
			for _, x := range signs {
				found[holds(t, tok.Join(slices.Insert(slices.Clone(whole), at, x)...))]++
				if at == len(whole) {
					continue
				}
				found[holds(t, tok.Join(slices.Replace(slices.Clone(whole), at, at+1, x)...))]++
				found[holds(t, tok.Join(slices.Delete(slices.Clone(whole), at, at+1)...))]++
			}
		}
	}
	for _, e := range []api.Errno{api.OK, api.ErrForm, api.ErrWord, api.ErrMany, api.ErrRange} {
		if found[e] < 2 {
			t.Error(e, found)
		}
	}
}

// P7.1, P7.2: long lines, most of which are right, some with one token that is another one.
func TestParseLong(t *testing.T) {
	all := lex("a if e.f 1 1048577 'x' true in ( ) not - + < and ; : set raise send cancel log go inner do on auto state end *")
	found := map[api.Errno]int{}
	kinds := map[int]int{}
	c := chance{1}
	for range 60000 {
		s := c.line()
		if l, e, _ := tok.Lex(s); e == api.OK && c.Below(3) == 0 {
			switch at := c.Below(len(l)); c.Below(4) {
			case 0:
				l[at] = all[c.Below(len(all))]
			case 1:
				l = slices.Insert(l, at, all[c.Below(len(all))])
			case 2:
				l = slices.Delete(l, at, at+1)
			case 3:
				l = l[:at]
			}
			s = tok.Join(l...)
		}
		found[holds(t, s)]++
		n, _ := line.Parse(s)
		kinds[n.Kind]++
	}
	for _, e := range []api.Errno{api.OK, api.ErrForm, api.ErrWord, api.ErrMany, api.ErrRange, api.ErrDeep} {
		if found[e] < 50 {
			t.Error(e, found)
		}
	}
	for k := line.Chart; k <= line.End; k++ {
		if kinds[k] < 1000 {
			t.Error(k, kinds)
		}
	}
}

// P7.1, P1: of whatever bytes, each call ends.
func TestParseWild(t *testing.T) {
	c := chance{2}
	for range 50000 {
		b := []byte(c.line())
		for range c.Below(3) {
			if len(b) > 0 {
				b[c.Below(len(b))] = byte(c.Below(256))
			}
		}
		holds(t, string(b))
	}
	const n = 1 << 20
	for s, want := range map[string]api.Errno{
		"on e go" + times(n, " a"):        api.ErrMany,
		"state " + times(n, "a"):          api.ErrLong,
		times(n, " "):                     api.ErrWord,
		"end" + times(n, " "):             api.OK,
		"var x '" + times(n, "a"):         api.ErrShort,
		"var x " + times(n, "9"):          api.ErrOver,
		"on e" + times(n, " ") + "inner":  api.OK,
		"on e do raise e" + times(n, ";"): api.ErrMany,
	} {
		if _, e := line.Parse(s); e != want {
			t.Errorf("%.20q: %d", s, e)
		}
	}
}

// An answer is new, each time.
func TestParseNew(t *testing.T) {
	const s = "on e if x go a b do raise e"
	a, _ := line.Parse(s)
	b, _ := line.Parse(s)
	a.Goes[0], a.Trans.Do[0].Name = "z", "z"
	_ = append(a.Goes[:1], "y")
	if b.Text() != s {
		t.Error(b.Text())
	}
}
