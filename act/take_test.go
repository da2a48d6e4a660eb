package act_test

import (
	"math"
	"slices"
	"testing"

	"whirligig/act"
	"whirligig/api"
	"whirligig/tok"
)

// holds holds what Take tells against what it should tell; it answers the error.
func holds(t *testing.T, l []tok.Token, from int) api.Errno {
	t.Helper()
	was := slices.Clone(l)
	acts, next, e := act.Take(l, from)
	want, wantNext, wantE := expected(l, from)
	if !slices.EqualFunc(acts, want, same) || next != wantNext || e != wantE {
		t.Fatalf("%q from %d: %v %d %d, not %v %d %d", tok.Join(l...), from, acts, next, e, want, wantNext, wantE)
	}
	if !slices.Equal(l, was) {
		t.Fatal("tokens changed")
	}
	for _, a := range acts {
		if !a.Right() {
			t.Fatalf("%q: %v isn't right", tok.Join(l...), a)
		}
	}
	again(t, acts)
	return e
}

// again takes acts once more from what they show.
func again(t *testing.T, acts []act.Act) {
	t.Helper()
	if len(acts) == 0 {
		return
	}
	s := act.Show(acts...)
	l, e, at := tok.Lex(s)
	if e != api.OK {
		t.Fatal(s, e, at)
	}
	got, next, e := act.Take(l, 0)
	if e != api.OK || next != len(l) || !slices.EqualFunc(got, acts, same) {
		t.Fatal(s, got, next, e)
	}
}

// P6.1: all rows of a few tokens.
func TestTakeShort(t *testing.T) {
	signs := lex("if set raise send cancel log a e.f 7 1048577 'a' : ; -")
	found := map[api.Errno]int{}
	var goOn func(l []tok.Token)
	goOn = func(l []tok.Token) {
		found[holds(t, l, 0)]++
		if len(l) == 5 {
			return
		}
		for _, s := range signs {
			goOn(append(l[:len(l):len(l)], s))
		}
	}
	goOn(nil)
	if found[api.OK] < 10000 || found[api.ErrRange] < 100 || found[api.ErrForm] < 10000 || len(found) != 3 {
		t.Error(found)
	}
}

// P6.1: one act, ahead of which, and behind which, all sorts of tokens stand.
func TestTakeAround(t *testing.T) {
	signs := lex("if set raise send cancel log a e.f 7 1048577 'a' : ; - ( ) + true do go inner <")
	for _, s := range []string{"set x 1", "raise e", "send e 5", "cancel e.f", "log x", "if x : raise e", "if x = 1 : set y - 2", "if (x) : send e 0 ; log 'a'"} {
		whole := lex(s)
		for _, x := range signs {
			for _, y := range signs {
				holds(t, append(slices.Clone(whole), x, y), 0)
				holds(t, append([]tok.Token{x, y}, whole...), 2)
				holds(t, append([]tok.Token{x}, whole...), 0)
			}
			for at := range whole {
				holds(t, slices.Replace(slices.Clone(whole), at, at+1, x), 0)
				holds(t, slices.Insert(slices.Clone(whole), at, x), 0)
			}
		}
		for at := range whole {
			holds(t, whole[:at], 0)
			holds(t, whole, at)
			holds(t, slices.Delete(slices.Clone(whole), at, at+1), 0)
		}
	}
}

// P6.1: long rows of tokens, most of which are acts, some too many, some with one token that is another one.
func TestTakeLong(t *testing.T) {
	all := lex("a if e.f 1 1048577 'x' true in ( ) not - + < and ; : set raise send cancel log go")
	found := map[api.Errno]int{}
	taken := map[int]int{}
	c := chance{1}
	for range 40000 {
		l, e, _ := tok.Lex(c.some(1+c.Below(10), c.Below(9)))
		if e != api.OK {
			continue
		}
		from := 0
		switch c.Below(5) {
		case 0:
			l[c.Below(len(l))] = all[c.Below(len(all))]
		case 1:
			l = l[:c.Below(len(l)+1)]
		case 2:
			from = c.Below(len(l)+3) - 1
		case 3:
			if at := slices.IndexFunc(l, func(x tok.Token) bool { return x.Kind == tok.Number }); at >= 0 {
				l[at] = lex(c.Pick("1048576", "1048577"))[0]
			}
		}
		found[holds(t, l, from)]++
		acts, _, _ := act.Take(l, from)
		taken[len(acts)]++
	}
	for _, e := range []api.Errno{api.OK, api.ErrForm, api.ErrMany, api.ErrDeep, api.ErrRange} {
		if found[e] < 50 {
			t.Error(e, found)
		}
	}
	for n := range 9 {
		if taken[n] < 50 {
			t.Error(n, taken)
		}
	}
}

// P6.1: each kind, with just what is its own.
func TestTakeKinds(t *testing.T) {
	for s, want := range map[string]act.Act{
		"set x 'a'":              {Kind: 1, Name: "x", X: read("'a'")},
		"set x -1":               {Kind: 1, Name: "x", X: read("-1")},
		"set x x-1":              {Kind: 1, Name: "x", X: read("x - 1")},
		"raise e":                {Kind: 2, Name: "e"},
		"raise log.e":            {Kind: 2, Name: "log.e"},
		"send e 0":               {Kind: 3, Name: "e"},
		"send a.b 1048576":       {Kind: 3, Name: "a.b", N: 1 << 20},
		"cancel in.in":           {Kind: 4, Name: "in.in"},
		"cancel e":               {Kind: 4, Name: "e"},
		"log 5":                  {Kind: 5, X: read("5")},
		"log in(s)and not b":     {Kind: 5, X: read("in(s) and not b")},
		"if b:raise e":           {Kind: 2, If: read("b"), Name: "e"},
		"if 1:set x 2":           {Kind: 1, If: read("1"), Name: "x", X: read("2")},
		"if((b)):send e 3":       {Kind: 3, If: read("b"), Name: "e", N: 3},
		"if a or b : cancel e":   {Kind: 4, If: read("a or b"), Name: "e"},
		"if 'if : x' : log '; '": {Kind: 5, If: read("'if : x'"), X: read("'; '")},
	} {
		l := lex(s)
		acts, next, e := act.Take(l, 0)
		if e != api.OK || next != len(l) || len(acts) != 1 || !same(acts[0], want) {
			t.Error(s, acts, next, e)
		}
		holds(t, l, 0)
	}
}

// P6.1: where acts end, others may stand, be it what it will, but for a semicolon.
func TestTakeEnds(t *testing.T) {
	for s, want := range map[string]int{
		"raise e":               2,
		"raise e raise f":       2,
		"raise e f":             2,
		"raise e : f":           2,
		"raise e.f -1":          2,
		"send e 5 6":            3,
		"send e 5 - 6":          3,
		"set x y z":             3,
		"set x y < z < 1":       5,
		"set x y if b":          3,
		"log a ) ; log b":       2,
		"log a 'b'":             2,
		"cancel e go ; raise f": 2,
		"raise e ; raise f go":  5,
		"if a : raise e : x":    5,
	} {
		if acts, next, e := act.Take(lex(s), 0); e != api.OK || next != want || len(acts) == 0 {
			t.Error(s, acts, next, e)
		}
		holds(t, lex(s), 0)
	}
}

// P6.1: the first part that is wrong is told, of the first act that has one.
func TestTakeErrors(t *testing.T) {
	deep, many := times(8, "-")+"1", times(32, "-")+"1"
	eight := times(8, "raise e;")
	for s, want := range map[string]api.Errno{
		"":                                      api.ErrForm,
		"a":                                     api.ErrForm,
		"a.b":                                   api.ErrForm,
		"'set' x 1":                             api.ErrForm,
		";":                                     api.ErrForm,
		"; raise e":                             api.ErrForm,
		": raise e":                             api.ErrForm,
		"set":                                   api.ErrForm,
		"set 1":                                 api.ErrForm,
		"set 'x' 1":                             api.ErrForm,
		"set x":                                 api.ErrForm,
		"set x ;":                               api.ErrForm,
		"set x = 1":                             api.ErrForm,
		"set x : 1":                             api.ErrForm,
		"set a.b 1":                             api.ErrForm,
		"set true 1":                            api.ErrForm,
		"set x if":                              api.ErrForm,
		"set x 1 +":                             api.ErrForm,
		"set x (1":                              api.ErrForm,
		"set x 1 < 2 < 3":                       api.OK,
		"set a.b " + deep:                       api.ErrForm,
		"set x " + deep:                         api.ErrDeep,
		"set x " + many:                         api.ErrMany,
		"raise":                                 api.ErrForm,
		"raise ;":                               api.ErrForm,
		"raise 'e'":                             api.ErrForm,
		"raise 'e.f'":                           api.ErrForm,
		"raise 5":                               api.ErrForm,
		"raise *":                               api.ErrForm,
		"raise log":                             api.ErrForm,
		"raise (e)":                             api.ErrForm,
		"send":                                  api.ErrForm,
		"send e":                                api.ErrForm,
		"send e ;":                              api.ErrForm,
		"send 5":                                api.ErrForm,
		"send 5 e":                              api.ErrForm,
		"send 'e' 5":                            api.ErrForm,
		"send in 5":                             api.ErrForm,
		"send e '5'":                            api.ErrForm,
		"send e -5":                             api.ErrForm,
		"send e (5)":                            api.ErrForm,
		"send e x":                              api.ErrForm,
		"send e true":                           api.ErrForm,
		"send e 1048576":                        api.OK,
		"send e 1048577":                        api.ErrRange,
		"send e 9223372036854775807":            api.ErrRange,
		"send set 1048577":                      api.ErrForm,
		"cancel":                                api.ErrForm,
		"cancel 'e'":                            api.ErrForm,
		"cancel do":                             api.ErrForm,
		"cancel 1":                              api.ErrForm,
		"log":                                   api.ErrForm,
		"log ;":                                 api.ErrForm,
		"log a.b":                               api.ErrForm,
		"log set":                               api.ErrForm,
		"log " + deep:                           api.ErrDeep,
		"log " + many:                           api.ErrMany,
		"if":                                    api.ErrForm,
		"if :":                                  api.ErrForm,
		"if b":                                  api.ErrForm,
		"if b :":                                api.ErrForm,
		"if b ; raise e":                        api.ErrForm,
		"if b raise e":                          api.ErrForm,
		"if b c : raise e":                      api.ErrForm,
		"if b : c":                              api.ErrForm,
		"if b : if c : raise e":                 api.ErrForm,
		"if b : ; raise e":                      api.ErrForm,
		"if b < c < d : raise e":                api.ErrForm,
		"if a.b : raise e":                      api.ErrForm,
		"if : " + deep:                          api.ErrForm,
		"if " + deep + " : raise e":             api.ErrDeep,
		"if " + deep:                            api.ErrDeep,
		"if " + deep + " : raise 5":             api.ErrDeep,
		"if " + many + " : log " + deep:         api.ErrMany,
		"if " + deep + " : log " + many:         api.ErrDeep,
		"if b : send e 1048577":                 api.ErrRange,
		"if b c : send e 1048577":               api.ErrForm,
		"if " + deep + " : send e 1048577":      api.ErrDeep,
		"raise e ; send e 1048577 ; raise":      api.ErrRange,
		"raise e ; raise ; send e 1048577":      api.ErrForm,
		"log " + deep + " ; log " + many:        api.ErrDeep,
		"log " + many + " ; log " + deep:        api.ErrMany,
		"send e 1048577 ; log " + deep:          api.ErrRange,
		"raise e;":                              api.ErrForm,
		"raise e ; ;":                           api.ErrForm,
		"raise e ; ; raise f":                   api.ErrForm,
		"raise e ; go":                          api.ErrForm,
		"raise e ; raise":                       api.ErrForm,
		eight:                                   api.ErrMany,
		eight + "x":                             api.ErrMany,
		eight + "log " + deep:                   api.ErrMany,
		eight + "raise f":                       api.ErrMany,
		eight[:len(eight)-1]:                    api.OK,
		eight[:len(eight)-1] + " x":             api.OK,
		times(7, "raise e;"):                    api.ErrForm,
		times(7, "raise e;") + "send e 1048577": api.ErrRange,
		times(7, "raise e;") + "set x;raise e":  api.ErrForm,
		times(7, "raise e;") + "raise;raise e":  api.ErrForm,
	} {
		acts, next, e := act.Take(lex(s), 0)
		if e != want || (e == api.OK) != (len(acts) > 0) || e != api.OK && next != 0 {
			t.Error(s, acts, next, e, "not", want)
		}
		holds(t, lex(s), 0)
	}
}

// P6.1: from where it may be taken, and from where not.
func TestTakeFrom(t *testing.T) {
	l := lex("raise e ; set x 1 ; log 'a'")
	found := 0
	for from := -3; from < len(l)+4; from++ {
		if holds(t, l, from) == api.OK {
			found++
		}
	}
	if found != 3 {
		t.Error(found)
	}
	for _, from := range []int{math.MinInt, -1, len(l), len(l) + 1, math.MaxInt} {
		if acts, next, e := act.Take(l, from); len(acts) != 0 || next != 0 || e != api.ErrForm {
			t.Error(from, acts, next, e)
		}
	}
	// What stands behind a list's end is none of it.
	if acts, next, e := act.Take(l[:2], 0); len(acts) != 1 || next != 2 || e != api.OK {
		t.Error(acts, next, e)
	}
	if acts, next, e := act.Take(nil, 0); len(acts) != 0 || next != 0 || e != api.ErrForm {
		t.Error(acts, next, e)
	}
}

// P6.1: acts, and what is ahead of them, as great as may be on one line.
func TestTakeGreat(t *testing.T) {
	l := lex("if a : raise e ; " + times(4, "set x 1 - "+times(6, "-")+"1;") + times(2, "log a;") + "send e.f 1048576 ")
	for len(l) < api.MaxTokens {
		l = append([]tok.Token{{Kind: tok.Sign, Text: ";"}}, l...)
	}
	from := slices.IndexFunc(l, func(x tok.Token) bool { return x.Is("if") })
	if acts, next, e := act.Take(l, from); len(acts) != 8 || next != len(l) || e != api.OK {
		t.Error(acts, next, e)
	}
	holds(t, l, from)
}

// P6.1, P1: of whatever tokens, each call ends.
func TestTakeWild(t *testing.T) {
	numbers := []int64{math.MinInt64, -1, 0, 1, 1 << 20, 1<<20 + 1, math.MaxInt64}
	texts := []string{"", "set", "raise", "send", "cancel", "log", "if", ":", ";", "a", "a.b", "A", " ", "'", "1", "\x00\xff", times(100, "a")}
	c := chance{2}
	for range 50000 {
		l := make([]tok.Token, c.Below(12))
		for i := range l {
			l[i] = tok.Token{Kind: c.Below(8) - 1, Text: c.Pick(texts...), N: numbers[c.Below(len(numbers))], At: c.Below(9) - 4}
		}
		act.Take(l, c.Below(15)-1)
	}
	const n = 1 << 20
	for _, s := range []string{"(", "-", "not", "if", ";", ":", "log"} {
		l := append(lex("if a : log"), slices.Repeat(lex(s), n)...)
		if acts, next, e := act.Take(l, 0); len(acts) != 0 || next != 0 || e != api.ErrForm {
			t.Error(s, acts, next, e)
		}
	}
	l := slices.Repeat(lex("raise e ;"), n)
	if acts, next, e := act.Take(l, 0); len(acts) != 0 || next != 0 || e != api.ErrMany {
		t.Error(acts, next, e)
	}
	if acts, next, e := act.Take(l, len(l)-6); len(acts) != 0 || next != 0 || e != api.ErrForm {
		t.Error(acts, next, e)
	}
	if acts, next, e := act.Take(l[:len(l)-1], len(l)-6); len(acts) != 2 || next != len(l)-1 || e != api.OK {
		t.Error(acts, next, e)
	}
}

// An answer is new, each time.
func TestTakeNew(t *testing.T) {
	l := lex("set x 1 ; raise e")
	a, _, _ := act.Take(l, 0)
	b, _, _ := act.Take(l, 0)
	a[0], a[1].Name = act.Act{}, "f"
	if b[0].Name != "x" || b[1].Name != "e" || l[5].Text != "e" {
		t.Error(b, l)
	}
}
