package valid_test

import (
	"math"
	"reflect"
	"strings"
	"testing"

	"whirligig/act"
	"whirligig/api"
	"whirligig/chart"
	"whirligig/dice"
	"whirligig/expr"
	"whirligig/line"
	"whirligig/val"
	"whirligig/valid"
)

// told is what Check tells.
type told struct {
	e    api.Errno
	name string
}

var fine = told{}

// parse is a chart of which it is known that it is one; a bar between blanks parts its lines, too.
func parse(t *testing.T, text string) chart.Chart {
	t.Helper()
	c, e, at := chart.Parse(strings.ReplaceAll(text, " | ", "\n"))
	if e != api.OK {
		t.Fatalf("%q: %d %d", text, e, at)
	}
	return c
}

// holds holds what Check tells of a chart against what it should tell; it answers that.
func holds(t *testing.T, c chart.Chart) told {
	t.Helper()
	e, name := valid.Check(c)
	if wantE, want := expected(c); e != wantE || name != want {
		t.Fatalf("%s: %d %q, not %d %q", chart.Print(c), e, name, wantE, want)
	}
	return told{e, name}
}

// tells holds what Check tells of charts, each told by what stands behind the word chart, against what it should tell.
func tells(t *testing.T, texts map[string]told) {
	t.Helper()
	for text, want := range texts {
		c := parse(t, "chart "+text)
		if got := holds(t, c); got != want {
			t.Errorf("%q: %v, not %v", text, got, want)
		}
	}
}

// P9.1: of a chart without states nothing else is looked at.
func TestCheckNone(t *testing.T) {
	for _, c := range []chart.Chart{{}, {Name: "c"}, {States: []chart.State{}}, {Name: "c", Vars: []chart.Var{{Name: "x"}, {Name: "x"}}}} {
		if e, name := valid.Check(c); e != api.ErrChart || name != "" {
			t.Error(c, e, name)
		}
	}
}

// P9.1: a chart with all that there may be.
func TestCheckFine(t *testing.T) {
	const whole = `chart door shut
var n 0
var open false
var who 'no one'
state shut quiet
  enter set open false ; set n n + 1
  enter if who != 'no one' : log who + '!'
  exit log n ; log open ; log who ; log in(shut) and not in(door)
  on knock if n < 3 go loud do set who 'a' ; raise heard
  on knock.twice go left right
  on * go back
  auto if n > 100 or in(right)
  auto go gone inner do cancel late
  state quiet
    on e if open = (n = 1) go h
  end
  state loud
    parallel both
      state left
      end
      parallel right
        state door
        end
      end
    end
    shallow h both
  end
  deep back right
  final over
    enter raise e
    exit send e 5
  end
end
final gone
end
shallow first shut
deep deepest door
`
	if got := holds(t, parse(t, whole)); got != fine {
		t.Error(got)
	}
}

// P9.1: no two variables have one name, nor do two states; but one may have the root's.
func TestCheckTwice(t *testing.T) {
	tells(t, map[string]told{
		"c | var x 1 | var x 1 | state a | end":                             {api.ErrTwice, "x"},
		"c | var x 1 | var y 1 | var z 1 | var y 'a' | state a | end":       {api.ErrTwice, "y"},
		"c | var x 1 | var y 1 | var y 1 | var x 1 | state a | end":         {api.ErrTwice, "y"},
		"c | var x 1 | var xx 1 | var x_ 1 | var x1 1 | state a | end":      fine,
		"c | var a 1 | var c 1 | state a | end":                             fine,
		"c | var x 1 | var x 1":                                             {api.ErrTwice, "x"},
		"c | var x 1 | var x 1 | state a | end | state a | end":             {api.ErrTwice, "x"},
		"c | var x 1 | var y 1 | state a | end | state a | end":             {api.ErrTwice, "a"},
		"c | state a | end | state a | end":                                 {api.ErrTwice, "a"},
		"c | state a | end | state b | state a | end | end":                 {api.ErrTwice, "a"},
		"c | state b | state a | end | end | state a | end":                 {api.ErrTwice, "a"},
		"c | state a | state a | end | end":                                 {api.ErrTwice, "a"},
		"c | state a | end | final a | end":                                 {api.ErrTwice, "a"},
		"c | state a | end | deep a a":                                      {api.ErrTwice, "a"},
		"c | state a | end | deep h a | shallow h a":                        {api.ErrTwice, "h"},
		"c | state a | end | deep h a | state h | end":                      {api.ErrTwice, "h"},
		"c | state a | end | state b | end | final b | end | state a | end": {api.ErrTwice, "b"},
		"c | state a | end | state aa | end | state a1 | end":               fine,
		"c | state c | end":                                                 fine,
		"c | state a | state c | end | end":                                 fine,
		"c | state a | end | deep c a":                                      fine,
		"c | state c | state c | end | end":                                 {api.ErrTwice, "c"},
		"c | state c | end | state c | end":                                 {api.ErrTwice, "c"},
		// What else is wrong is told first, where it stands ahead.
		"c | state a | end | state a b | auto | end":               {api.ErrTwice, "a"},
		"c | state a | end | state b | auto | end | state a | end": {api.ErrForm, "b"},
		"c | state a | auto | state a | end | end":                 {api.ErrForm, "a"},
		"c | state a | end | deep a x":                             {api.ErrTwice, "a"},
		"c | state a | end | deep h x | deep h a":                  {api.ErrHistory, "h"},
		"c | parallel p | state a | end | final a | end | end":     {api.ErrKids, "p"},
		"c x | state a | end | state a | end":                      {api.ErrStart, "c"},
		"c | var x 1 | var x 1 | state a | auto | end":             {api.ErrTwice, "x"},
	})
}

// P9.1: where histories lead.
func TestCheckHistory(t *testing.T) {
	bad := told{api.ErrHistory, "h"}
	in := "c | state r | end | state a | state b | state d | final e | end | end | end | end"
	for start, can := range map[string]string{
		"b":  "+.+..",
		"d":  "+.++.",
		"e":  "+.+.+",
		"a":  "++...",
		"r":  "++...",
		"h":  ".....",
		"c":  ".....",
		"x":  ".....",
		"bb": ".....",
	} {
		for i, text := range []string{
			in + " | deep h " + start,
			in + " | shallow h " + start,
			here(in, "state b", "deep h "+start),
			here(in, "state d", "shallow h "+start),
			here(in, "final e", "deep h "+start),
		} {
			want := bad
			if can[i] == '+' {
				want = fine
			}
			tells(t, map[string]told{text: want})
		}
	}
	tells(t, map[string]told{
		here(in, "state b", "shallow h b"):                                                   fine,
		here(in, "state b", "shallow h d"):                                                   bad,
		here(in, "state b", "shallow h a"):                                                   bad,
		here(in, "state b", "shallow h r"):                                                   bad,
		here(in, "state d", "shallow h e"):                                                   bad,
		here(in, "final e", "shallow h e"):                                                   fine,
		in + " | shallow h b":                                                                bad,
		in + " | deep g b | deep h g":                                                        bad,
		in + " | shallow g a | shallow h g":                                                  bad,
		in + " | deep h g | shallow g a":                                                     bad,
		here(in, "state b", "deep g b") + " | deep h g":                                      bad,
		"c | var x 1 | state a | end | deep h x":                                             bad,
		"c | state c | end | deep h c | shallow g c":                                         fine,
		"c | deep h a | parallel a | state b | end | end":                                    fine,
		"c | state a | end | deep h a | shallow g b":                                         {api.ErrHistory, "g"},
		"c | state a | end | shallow g b | deep h b":                                         {api.ErrHistory, "g"},
		"c | parallel p | state a | shallow h b | end | state b | end | end":                 {api.ErrKids, "a"},
		"c | parallel p | state a | shallow h b | state d | end | end | state b | end | end": bad,
		"c | parallel p | state a | shallow h d | state d | end | end | state b | end | end": fine,
		// Of several states of one name the first one counts.
		"c | deep h b | deep b a | state b | end | state a | end":                                      bad,
		"c | deep h b | state a | end | state b | end | deep b a":                                      {api.ErrTwice, "b"},
		"c | shallow h b | state a | state b | end | end | state b | end":                              bad,
		"c | shallow h b | state b | end | state a | state b | end | end":                              {api.ErrTwice, "b"},
		"c | state a | state d | end | deep h b | end | state r | state b | end | state b | end | end": bad,
	})
}

// here is a text with a line more, ahead of another one.
func here(text, where, more string) string {
	return strings.Replace(text, where, more+" | "+where, 1)
}

// P9.1: which children there may be.
func TestCheckKids(t *testing.T) {
	tells(t, map[string]told{
		"c":                                    {api.ErrKids, "c"},
		"d":                                    {api.ErrKids, "d"},
		"c x":                                  {api.ErrKids, "c"},
		"c | var x 1":                          {api.ErrKids, "c"},
		"c | deep h h":                         {api.ErrKids, "c"},
		"c | shallow h a | deep g a":           {api.ErrKids, "c"},
		"c | state a | end":                    fine,
		"c | final a | end":                    fine,
		"c | parallel a | state b | end | end": fine,
		"c | deep h a | state a | end":         fine,
		"c | state a | deep h a | end":         {api.ErrKids, "a"},
		"c | state a | deep h b | shallow g b | end | state b | end":      {api.ErrKids, "a"},
		"c | state a | deep h b | final b | end | end":                    fine,
		"c | state a | parallel b | state d | end | end | end":            fine,
		"c | parallel p | end":                                            {api.ErrKids, "p"},
		"c | parallel p | deep h p | end":                                 {api.ErrKids, "p"},
		"c | parallel p | state a | end | state b | end | end":            fine,
		"c | parallel p | parallel a | state b | end | end | end":         fine,
		"c | parallel p | parallel a | end | end":                         {api.ErrKids, "a"},
		"c | parallel p | final f | end | end":                            {api.ErrKids, "p"},
		"c | parallel p | state a | end | final f | end | end":            {api.ErrKids, "p"},
		"c | parallel p | final f | end | state a | end | end":            {api.ErrKids, "p"},
		"c | parallel p | state a | final f | end | end | end":            fine,
		"c | parallel p | state a | end | deep h a | end":                 {api.ErrKids, "p"},
		"c | parallel p | shallow h a | state a | end | end":              {api.ErrKids, "p"},
		"c | parallel p | state a | state b | end | deep h b | end | end": fine,
		"c | state a | parallel p | final f | end | end | end":            {api.ErrKids, "p"},
		"c | state a | end | parallel p | end | parallel q | end":         {api.ErrKids, "p"},
		"c | final f | on e | end":                                        {api.ErrKids, "f"},
		"c | final f | auto | end":                                        {api.ErrKids, "f"},
		"c | final f | on e go a | end | state a | end":                   {api.ErrKids, "f"},
		"c | final f | enter raise e | exit log 1 | end":                  fine,
		"c | state f | on e | end":                                        fine,
		"c | parallel p | state f | end | on e | end":                     fine,
	})
}

// P9.1: a final one has no children, though no text could give it one.
func TestCheckFinal(t *testing.T) {
	for _, k := range []int{line.State, line.Parallel, line.Final, line.Deep} {
		c := parse(t, "chart c | final f | end")
		c.States = append(c.States, chart.State{Name: "a", Kind: k, Parent: 1, Start: "a"})
		if got := holds(t, c); got != (told{api.ErrKids, "f"}) {
			t.Error(k, got)
		}
	}
}

// P9.1: where states begin.
func TestCheckStart(t *testing.T) {
	tells(t, map[string]told{
		"c a | state a | end":                                                 fine,
		"c b | state a | end | state b | end":                                 fine,
		"c a | final a | end":                                                 fine,
		"c a | parallel a | state b | end | end":                              fine,
		"c c | state c | end":                                                 fine,
		"c c | state a | end":                                                 {api.ErrStart, "c"},
		"c b | state a | end":                                                 {api.ErrStart, "c"},
		"c b | state a | state b | end | end":                                 {api.ErrStart, "c"},
		"c h | state a | end | deep h a":                                      {api.ErrStart, "c"},
		"c h | state a | end | shallow h a":                                   {api.ErrStart, "c"},
		"c x | var x 1 | state a | end":                                       {api.ErrStart, "c"},
		"c aa | state a | end":                                                {api.ErrStart, "c"},
		"c | state a b | end":                                                 {api.ErrStart, "a"},
		"c | state a a | end":                                                 {api.ErrStart, "a"},
		"c | state a c | end":                                                 {api.ErrStart, "a"},
		"c | state a b | end | state b | end":                                 {api.ErrStart, "a"},
		"c | state a b | state b | end | end":                                 fine,
		"c | state a b | final b | end | end":                                 fine,
		"c | state a b | state d | end | state b | end | end":                 fine,
		"c | state a a | state b | end | end":                                 {api.ErrStart, "a"},
		"c | state a c | state b | end | end":                                 {api.ErrStart, "a"},
		"c | state a c | state c | end | end":                                 fine,
		"c | state a h | state b | end | deep h b | end":                      {api.ErrStart, "a"},
		"c | state a d | state b | state d | end | end | end":                 {api.ErrStart, "a"},
		"c | state a b | deep h a | end | state b | end":                      {api.ErrKids, "a"},
		"c | state d | state a b | state e | end | end | state b | end | end": {api.ErrStart, "a"},
		"c | state a b | state d | state b | end | end | state b | end | end": {api.ErrStart, "a"},
		"c | state a b | state b | end | state d | state b | end | end | end": {api.ErrTwice, "b"},
		"c | state a b | deep b d | state d | end | state b | end | end":      {api.ErrStart, "a"},
		"c | state b | end | state a b | state b | end | end":                 {api.ErrStart, "a"},
	})
}

// P9.1: acts, wherever they stand.
func TestCheckActs(t *testing.T) {
	const text = "c | var n 1 | var b true | var s 'a' | var n1 2 | state a | ? | on g | deep h q | state q | end | state c | end | end | final f | ! | end"
	for acts, e := range map[string]api.Errno{
		"raise n": api.OK,
		"raise nowhere ; send no.where 5 ; cancel f": api.OK,
		"set n 2": api.OK,
		"set n n1 * n ; set b n = n1 ; set s s + 'b'": api.OK,
		"set b in(a) or in(q) or in(f) or in(c)":      api.OK,
		"set n true":                                  api.ErrType,
		"set n 'a'":                                   api.ErrType,
		"set n s":                                     api.ErrType,
		"set b 1":                                     api.ErrType,
		"set b n":                                     api.ErrType,
		"set s 1":                                     api.ErrType,
		"set s b":                                     api.ErrType,
		"set n n = 1":                                 api.ErrType,
		"set m 1":                                     api.ErrName,
		"set a 1":                                     api.ErrName,
		"set c true":                                  api.ErrName,
		"set f in(f)":                                 api.ErrName,
		"set n m":                                     api.ErrName,
		"set n a":                                     api.ErrName,
		"set b in(n)":                                 api.ErrName,
		"set b in(h)":                                 api.ErrName,
		"set b in(m)":                                 api.ErrName,
		"set m m":                                     api.ErrName,
		"set n n + s":                                 api.ErrType,
		"set m n + s":                                 api.ErrType,
		"set m true + 1":                              api.ErrType,
		"set b m + 1":                                 api.ErrName,
		"set b not 1":                                 api.ErrType,
		"log 1":                                       api.OK,
		"log b and in(a)":                             api.OK,
		"log s + 'x' ; log n % 0":                     api.OK,
		"log m":                                       api.ErrName,
		"log in(h)":                                   api.ErrName,
		"log s + 1":                                   api.ErrType,
		"log -b":                                      api.ErrType,
		"if b : log 1":                                api.OK,
		"if n = 1 : set n 2":                          api.OK,
		"if in(q) and s < 'b' : raise e":              api.OK,
		"if n : raise e":                              api.ErrType,
		"if s : send e 5":                             api.ErrType,
		"if 1 : cancel e":                             api.ErrType,
		"if 'a' : log 1":                              api.ErrType,
		"if m : raise e":                              api.ErrName,
		"if in(h) : log 1":                            api.ErrName,
		"if b + 1 : set n 1":                          api.ErrType,
		// The condition first, then what is set, then its name, then its kind; one act behind the other.
		"if n : set m m":                         api.ErrType,
		"if m : set n true":                      api.ErrName,
		"if n : log m":                           api.ErrType,
		"if m : log -true":                       api.ErrName,
		"if b : set m -true":                     api.ErrType,
		"set m true ; set n true":                api.ErrName,
		"set n true ; set m true":                api.ErrType,
		"raise e ; log 1 ; set n s ; log m":      api.ErrType,
		"raise e ; log 1 ; log m ; set n s":      api.ErrName,
		"raise e ; if n : raise e ; log m":       api.ErrType,
		strings.Repeat("log n ; ", 7) + "log m":  api.ErrName,
		strings.Repeat("log n ; ", 7) + "log -b": api.ErrType,
	} {
		for where, name := range map[string]string{"?": "a", "!": "f"} {
			for _, lines := range []string{"enter *", "exit *", "enter log 1 | enter *", "exit log 1 | exit *", "exit * | enter raise e", "enter * | exit log m", "exit log m | enter *"} {
				if strings.Contains(lines, "m") && e == api.OK {
					continue
				}
				lines = strings.Replace(lines, "*", acts, 1)
				want := told{e, name}
				if e == api.OK {
					want = fine
				}
				other := map[string]string{"?": "!", "!": "?"}[where]
				tells(t, map[string]told{strings.Replace(strings.Replace(text, where, lines, 1), other, "#", 1): want})
			}
		}
		want := told{e, "a"}
		if e == api.OK {
			want = fine
		}
		for _, lines := range []string{"on e do *", "auto if b do *", "on e go a inner do *", "on f do log n | on e do *", "on e do * | auto", "on e do * | on f go x"} {
			if e == api.OK && (strings.HasSuffix(lines, "auto") || strings.HasSuffix(lines, "x")) {
				continue
			}
			tells(t, map[string]told{strings.Replace(strings.Replace(text, "?", strings.Replace(lines, "*", acts, 1), 1), "!", "#", 1): want})
		}
	}
}

// P9.1: transitions, and what they need.
func TestCheckTrans(t *testing.T) {
	const text = "c | var n 1 | var b true | var s 'a' | state a | ? | deep h q | state q | end | end | state r | end"
	for lines, e := range map[string]api.Errno{
		"auto":                             api.ErrForm,
		"auto inner":                       api.ErrForm,
		"auto do log 1":                    api.ErrForm,
		"auto inner do raise e":            api.ErrForm,
		"auto do log m":                    api.ErrForm,
		"auto if b":                        api.OK,
		"auto go r":                        api.OK,
		"auto if true do raise e":          api.OK,
		"auto if b go a inner":             api.OK,
		"on e":                             api.OK,
		"on *":                             api.OK,
		"on e.f inner":                     api.OK,
		"on e do log 1":                    api.OK,
		"on e if b":                        api.OK,
		"on e if n":                        api.ErrType,
		"on e if s":                        api.ErrType,
		"on e if 'a'":                      api.ErrType,
		"auto if 1":                        api.ErrType,
		"auto if m":                        api.ErrName,
		"on * if n + s = 1":                api.ErrType,
		"on * if in(h)":                    api.ErrName,
		"on * if in(c)":                    api.ErrName,
		"on * if in(b)":                    api.ErrName,
		"on * if a":                        api.ErrName,
		"on * if in(a) and in(q) or in(r)": api.OK,
		"on e go a":                        api.OK,
		"on e go q":                        api.OK,
		"on e go h":                        api.OK,
		"on e go c":                        api.ErrTarget,
		"on e go b":                        api.ErrTarget,
		"on e go x":                        api.ErrTarget,
		"on e go e":                        api.ErrTarget,
		"on e go aa":                       api.ErrTarget,
		"auto go x":                        api.ErrTarget,
		"auto if n go x":                   api.ErrType,
		"on e if m go x":                   api.ErrName,
		"on e if b go x do log m":          api.ErrTarget,
		"on e if b go r do log m":          api.ErrName,
		"on e if n go r do log m":          api.ErrType,
		"on e if n do log m":               api.ErrType,
		"on e go r do if n : log m":        api.ErrType,
		"on e | on e | auto go r | auto":   api.ErrForm,
		"auto | on e go x":                 api.ErrForm,
		"on e go x | auto":                 api.ErrTarget,
		"on e if n | on e go x":            api.ErrType,
		"on e go r do log m | auto":        api.ErrName,
		"auto | enter log m":               api.ErrName,
		"on e go x | exit set n true":      api.ErrType,
		"auto if n | exit log 1":           api.ErrType,
	} {
		want := told{e, "a"}
		if e == api.OK {
			want = fine
		}
		tells(t, map[string]told{strings.Replace(text, "?", lines, 1): want})
	}
}

// P9.1: which targets there may be together.
func TestCheckTargets(t *testing.T) {
	const text = "c | parallel p | state a | state a1 | end | parallel a2 | state a3 | end | state a4 | final a5 | end | deep g a5 | end | end | shallow h a1 | end | state b | state b1 | end | end | state d | end | end | state r | on e go ? | end"
	for goes, ok := range map[string]bool{
		"p": true, "a": true, "a5": true, "h": true, "g": true, "r": true, "c": false, "x": false,
		"a b": true, "b a": true, "a b d": true, "d a b": true, "a1 b1 d": true, "h b": true, "b1 h": true, "h b1 d": true, "g a3": true, "a3 g": true,
		"a3 a4": true, "a3 a5 b d": true, "a3 b a4 d": true, "g d a3 b1": true, "a2 b": true, "b1 a5": true,
		"a a": false, "p p": false, "h h": false, "a b a": false, "a b d b": false,
		"p a": false, "a p": false, "a a1": false, "a1 a": false, "a h": false, "h a": false, "a2 a5": false, "a5 a": false, "p g": false, "a4 a5": false, "a4 g": false,
		"a1 a2": false, "a1 a3": false, "a5 a1": false, "h a1": false, "a1 h": false, "h a2": false, "h a3": false, "g a5": false, "a5 g": false, "g h": false,
		"a r": false, "r a": false, "p r": false, "r p": false, "a5 r": false, "r g": false,
		"a1 b a2": false, "a3 b a1": false, "b d a3 h": false, "b d a4 g": false, "b a3 d a": false, "a b r": false, "a b d p": false,
		"c a": false, "a c": false, "a x": false, "x a": false, "a b x": false, "a b d x": false, "x x": false, "c c": false,
	} {
		want := told{api.ErrTarget, "r"}
		if ok {
			want = fine
		}
		tells(t, map[string]told{strings.Replace(text, "?", goes, 1): want})
	}
	tells(t, map[string]told{
		// The root isn't gone to, but another one of its name is.
		"c | state a | on e go c | end | state c | end":                                      fine,
		"c | parallel c | state a | on e go a b | end | state b | end | end":                 fine,
		"c | state a | on e go a c | end | state c | end":                                    {api.ErrTarget, "a"},
		"c | state a | on e go b d | end | state b | end | parallel p | state d | end | end": {api.ErrTarget, "a"},
		// Of several states of one name the first one counts.
		"c | state r | on e go a b | end | state a | end | parallel p | state a | end | state b | end | end": {api.ErrTarget, "r"},
		"c | state r | on e go a b | end | parallel p | state a | end | state b | end | end | state a | end": {api.ErrTwice, "a"},
	})
}

// P9.1: a state's name may be asked for wherever it stands; a history's, and the root's, may not.
func TestCheckScope(t *testing.T) {
	tells(t, map[string]told{
		"c | state a | on e if in(b) | end | state r | state b | end | end": fine,
		"c | state a | on e if in(c) | end":                                 {api.ErrName, "a"},
		"c | state a | on e if in(c) | end | state r | final c | end | end": fine,
		"c | state a | on e if in(c) | end | deep c a":                      {api.ErrName, "a"},
		"c | state a | on e if in(h) | end | deep h a":                      {api.ErrName, "a"},
		"c | state a | on e if in(h) | end | shallow h a":                   {api.ErrName, "a"},
		"c | var a true | state a | on e if a and in(a) | end":              fine,
		"c | var x true | state a | on e if in(x) | end":                    {api.ErrName, "a"},
		"c | state a | on e if a | end":                                     {api.ErrName, "a"},
		"c | var c true | state a | on e if c | end":                        fine,
		// A name that a state has that is no history is there, though a history ahead of that has it, too.
		"c | state a | on e if in(b) | end | deep b a | state b | end": {api.ErrTwice, "b"},
		"c | state a | on e if in(b) | end | state b | end | deep b a": {api.ErrTwice, "b"},
		"c | state a | on e if in(b) | end | deep b a | deep b a":      {api.ErrName, "a"},
	})
}

// P9.1: of all that is wrong with a state the first is told, in the order of the rules, not of the lines.
func TestCheckOrder(t *testing.T) {
	const text = "c {start}|var n 1|var b true|{var}|state q|{other}|end|{twice}|state a {own}|on e if {if} go {go} do {do}|{form}|exit log {exit}|{kids}|enter log {second}|enter if {test} : set {name} {x}|end|state last|{last}|end"
	l := []struct {
		part, bad, good string
		told
	}{
		{"{var}", "var n 2", "#", told{api.ErrTwice, "n"}},
		{"{start}", "a1", "a", told{api.ErrStart, "c"}},
		{"{other}", "auto", "#", told{api.ErrForm, "q"}},
		{"{twice}", "final a|end", "#", told{api.ErrTwice, "a"}},
		{"{kids}", "deep g g", "state a1|end", told{api.ErrKids, "a"}},
		{"{own}", "q", "a1", told{api.ErrStart, "a"}},
		{"{second}", "b + 1", "b", told{api.ErrType, "a"}},
		{"{test}", "m", "b", told{api.ErrName, "a"}},
		{"{x}", "-b", "n", told{api.ErrType, "a"}},
		{"{name}", "m", "n", told{api.ErrName, "a"}},
		{"{exit}", "n + b", "n", told{api.ErrType, "a"}},
		{"{if}", "m", "b", told{api.ErrName, "a"}},
		{"{go}", "q a", "q", told{api.ErrTarget, "a"}},
		{"{do}", "log m", "log n", told{api.ErrName, "a"}},
		{"{form}", "auto inner", "auto go q", told{api.ErrForm, "a"}},
		{"{last}", "on e go x", "on e", told{api.ErrTarget, "last"}},
	}
	for first := range len(l) + 1 {
		s, want := text, fine
		for i, p := range l {
			with := p.good
			if i >= first {
				with = p.bad
			}
			if i == first {
				want = p.told
			}
			s = strings.Replace(s, p.part, with, 1)
		}
		tells(t, map[string]told{strings.ReplaceAll(s, "|", " | "): want})
	}
}

// P9.1: all rows of a few lines that are a chart, when those states are closed that are open.
func TestCheckShort(t *testing.T) {
	few := []string{"state a", "state b a", "parallel p", "final f", "deep h a", "shallow g b", "auto go a b", "end"}
	all := append(few, "final a", "parallel b", "state c f", "deep a b", "shallow h f", "auto", "on e if in(a)", "on e if in(h)", "on * go p f", "on e go b h", "enter set x 1", "exit log in(b)", "enter set x in(f)")
	found := map[api.Errno]int{}
	var goOn func(text string, lines []string, more int)
	goOn = func(text string, lines []string, more int) {
		c, e, _ := chart.Parse(ends(text))
		if e != api.OK {
			return
		}
		found[holds(t, c).e]++
		for _, s := range lines {
			if more > 0 {
				goOn(text+"\n"+s, lines, more-1)
			}
		}
	}
	goOn("chart c", all, 4)
	goOn("chart c a\nvar x 1", all, 3)
	goOn("chart c\nvar x true\nstate a", all, 3)
	goOn("chart c\nparallel p", all, 4)
	goOn("chart c", few, 6)
	for _, e := range []api.Errno{api.OK, api.ErrTwice, api.ErrHistory, api.ErrKids, api.ErrStart, api.ErrType, api.ErrName, api.ErrForm, api.ErrTarget} {
		if found[e] < 100 {
			t.Error(e, found)
		}
	}
}

// P9.1: charts of all sizes, of which some are valid, and others have a few faults.
func TestCheckLong(t *testing.T) {
	found, great := map[api.Errno]int{}, map[bool]int{}
	c := dice.Charts{Dice: 1}
	wrong := 0
	for i := range 12000 {
		c.Seldom = []int{15, 60, 200, 1 << 20}[i%4]
		s, e, _ := chart.Parse(c.Text(1 + c.Below(48)))
		if e != api.OK {
			wrong++
			continue
		}
		got := holds(t, s)
		found[got.e]++
		if len(s.States) > 20 {
			great[got == fine]++
		}
	}
	for _, e := range []api.Errno{api.ErrTwice, api.ErrHistory, api.ErrKids, api.ErrStart, api.ErrType, api.ErrName, api.ErrForm, api.ErrTarget} {
		if found[e] < 100 {
			t.Error(e, found)
		}
	}
	if found[api.OK] < 3000 || great[true] < 1000 || great[false] < 1000 || wrong > 500 {
		t.Error(found, great, wrong)
	}
}

// What is handed in stays as it is, its spare room too.
func TestCheckStays(t *testing.T) {
	c := dice.Charts{Dice: 2, Seldom: 100}
	for range 300 {
		text := c.Text(20)
		a, e, _ := chart.Parse(text)
		if e != api.OK {
			continue
		}
		b := parse(t, text)
		a.Vars, a.States = append(a.Vars, chart.Var{Name: "z"}), append(a.States, chart.State{Name: "z"})
		b.Vars, b.States = append(b.Vars, chart.Var{Name: "z"}), append(b.States, chart.State{Name: "z"})
		part := a
		part.Vars, part.States = a.Vars[:len(a.Vars)-1], a.States[:len(a.States)-1]
		holds(t, part)
		if !reflect.DeepEqual(a, b) {
			t.Fatal(text)
		}
	}
}

// P1: of whatever charts, the call ends.
func TestCheckWild(t *testing.T) {
	c := dice.Charts{Dice: 3}
	number := func() int {
		return dice.One(&c.Dice, []int{math.MinInt, -2, -1, 0, 1, 2, 3, 4, 5, 6, 7, math.MaxInt})
	}
	some := func() expr.Expr {
		x := make(expr.Expr, c.Below(3))
		for i := range x {
			x[i] = expr.Node{Op: number(), L: number(), R: number(), Name: c.Pick("", "a", "x"), V: val.Value{Kind: number()}}
		}
		return x
	}
	acts := func() [][]act.Act {
		return [][]act.Act{nil, {{Kind: number(), If: some(), Name: c.Pick("x", "", "\x00"), X: some()}}}[:c.Below(3)]
	}
	for range 50000 {
		w := chart.Chart{Name: c.Maybe("c"), Vars: make([]chart.Var, c.Below(3)), States: make([]chart.State, c.Below(7))}
		for i := range w.Vars {
			w.Vars[i] = chart.Var{Name: c.Pick("x", "y", ""), V: val.Value{Kind: number()}}
		}
		for i := range w.States {
			s := chart.State{Name: c.Pick("a", "b", "d", "f", "", "\n"), Kind: c.Below(14) - 1, Parent: number(), Start: c.Pick("", "a", "b", "if"), Enter: acts(), Exit: acts()}
			if c.Below(3) > 0 {
				s.Kind = dice.One(&c.Dice, []int{line.State, line.Parallel})
			}
			if c.Below(2) == 0 {
				s.Trans = []line.Trans{{Event: c.Maybe("e"), If: some(), Goes: []string{c.Pick("a", "b", ""), c.Pick("d", "f", "\n")}}}
			}
			w.States[i] = s
		}
		valid.Check(w)
	}
}
