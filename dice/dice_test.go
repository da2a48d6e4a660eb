package dice_test

import (
	"strings"
	"testing"

	"whirligig/api"
	"whirligig/chart"
	"whirligig/dice"
	"whirligig/valid"
)

// What comes is within bounds, all of it comes, and it comes again the same.
func TestDice(t *testing.T) {
	a, b := dice.Dice(1), dice.Dice(1)
	numbers, texts := map[int]int{}, map[string]int{}
	for range 6000 {
		n := a.Below(6)
		if n != b.Below(6) {
			t.Fatal(n)
		}
		numbers[n]++
		texts[a.Pick("x", "y")+a.Maybe("z")]++
		b.Pick("x", "y")
		b.Maybe("z")
	}
	for n := range 6 {
		if numbers[n] < 800 {
			t.Error(numbers)
		}
	}
	for _, s := range []string{"x", "y", "xz", "yz"} {
		if texts[s] < 1200 {
			t.Error(texts)
		}
	}
	if len(numbers) != 6 || len(texts) != 4 {
		t.Error(numbers, texts)
	}
}

// Most charts are valid, if nothing in them shall be wrong; they have all that there may be, and come again the same.
func TestCharts(t *testing.T) {
	a, b := dice.Charts{Dice: 1}, dice.Charts{Dice: 1}
	right, great := 0, 0
	words := map[string]int{}
	for range 500 {
		n := 1 + a.Below(48)
		text := a.Text(n)
		if b.Below(48) != n-1 || b.Text(n) != text {
			t.Fatal(text)
		}
		c, _, _ := chart.Parse(text)
		if e, _ := valid.Check(c); e != api.OK {
			continue
		}
		right++
		if len(c.States) > 20 {
			great++
		}
		for _, word := range strings.Fields(text) {
			words[word]++
		}
	}
	if right < 200 || great < 80 {
		t.Error(right, great)
	}
	for _, word := range []string{"var", "state", "parallel", "final", "deep", "shallow", "enter", "exit", "on", "auto", "if", "go", "inner", "do", "set", "raise", "send", "cancel", "log"} {
		if words[word] < 100 {
			t.Error(word, words[word])
		}
	}
}

// Something is wrong with more charts, if more in them shall be.
func TestChartsSeldom(t *testing.T) {
	ahead := 0
	for _, seldom := range []int{0, 200, 10} {
		c := dice.Charts{Dice: 2, Seldom: seldom}
		wrong := 0
		for range 300 {
			x, _, _ := chart.Parse(c.Text(20))
			if e, _ := valid.Check(x); e != api.OK {
				wrong++
			}
		}
		if wrong <= ahead {
			t.Error(seldom, wrong, ahead)
		}
		ahead = wrong
	}
}
