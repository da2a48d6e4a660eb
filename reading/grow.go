package reading

import (
	"strconv"
	"strings"

	"whirligig/dice"
)

// Grove is what charts have that are made by chance, with as many histories and parallel states as there may be, and no acts.
type Grove struct {
	Vars  []string // the lines of all variables
	Heads []string // what a transition may begin with; # stands for the name of a state
}

// grower makes charts of a grove.
type grower struct {
	Grove
	dice.Dice
	all  []*plant
	room int // for so many states more
}

// plant is a state of a chart that is made by chance.
type plant struct {
	word, name string
	kids       []*plant
}

// add adds a state to one.
func (g *grower) add(in *plant, word string) *plant {
	n := &plant{word: word, name: "s" + strconv.Itoa(len(g.all))}
	g.all, in.kids = append(g.all, n), append(in.kids, n)
	g.room--
	return n
}

// grow adds the states in one.
func (g *grower) grow(in *plant, deep int) {
	words := []string{"state", "state", "state", "parallel"}
	if in.word != "parallel" {
		words = append(words, "final")
	}
	if in.word != "parallel" && g.Below(3) == 0 {
		g.add(in, "shallow")
	}
	for range 1 + g.Below(3) {
		n := g.add(in, g.Pick(words...))
		if n.word == "parallel" || n.word == "state" && deep < 5 && g.room > 0 && g.Below(2) == 0 {
			g.grow(n, deep+1)
		}
	}
	for in.word != "parallel" && g.Below(2) == 0 {
		g.add(in, "deep")
	}
}

// begin is a state in one that is no history, or, if it may be farther in, within it.
func (g *grower) begin(in *plant, far bool) *plant {
	n := dice.One(&g.Dice, in.kids)
	for n.word == "deep" || n.word == "shallow" {
		n = dice.One(&g.Dice, in.kids)
	}
	if far && len(n.kids) > 0 && g.Below(3) > 0 {
		return g.begin(n, far)
	}
	return n
}

// show adds the lines of the states in one.
func (g *grower) show(l []string, in *plant) []string {
	for _, n := range in.kids {
		s := n.word + " " + n.name
		switch {
		case n.word == "deep" || n.word == "shallow":
			l = append(l, s+" "+g.begin(in, n.word == "deep").name)
			continue
		case n.word == "state" && len(n.kids) > 0 && g.Below(2) == 0:
			s += " " + g.begin(n, false).name
		}
		l = g.show(append(l, s), n)
		for n.word != "final" && g.Below(3) > 0 {
			l = append(l, g.way())
		}
		l = append(l, "end")
	}
	return l
}

// way is the line of a transition.
func (g *grower) way() string {
	s := g.Pick(g.Heads...)
	if s == "auto" || g.Below(6) > 0 {
		s += " go " + g.targets()
	}
	return strings.ReplaceAll(s, "#", g.state()) + g.Maybe(" inner")
}

// state is the name of a state that is no history.
func (g *grower) state() string {
	n := dice.One(&g.Dice, g.all)
	if n.word == "deep" || n.word == "shallow" {
		return g.state()
	}
	return n.name
}

// targets are names of states that may be gone to together.
func (g *grower) targets() string {
	n := dice.One(&g.Dice, g.all)
	for range 2 {
		if n.word == "state" || n.word == "final" {
			n = dice.One(&g.Dice, g.all)
		}
	}
	if n.word != "parallel" || g.Below(4) == 0 {
		return n.name
	}
	var l []string
	for _, k := range n.kids {
		for len(k.kids) > 0 && g.Below(3) > 0 {
			k = dice.One(&g.Dice, k.kids)
		}
		l = append(l, k.name)
	}
	return strings.Join(l[:min(4, 1+g.Below(len(l)))], " ")
}

// Charts are so many valid charts with many histories, and at least so many states.
func (v Grove) Charts(seed, many, least int) []string {
	g := grower{Grove: v, Dice: dice.Dice(seed)}
	var l []string
	for len(l) < many {
		root := &plant{word: "chart"}
		g.all, g.room = nil, least
		for g.room > 0 {
			g.grow(root, 1)
		}
		lines := append([]string{"chart c"}, v.Vars...)
		text := strings.Join(g.show(lines, root), "\n")
		if _, ok := Table(text); ok {
			l = append(l, text)
		}
	}
	return l
}
