package dice_test

import (
	"testing"

	"whirligig/dice"
)

// What comes is within bounds, all of it comes, and it comes again the same.
func TestDice(t *testing.T) {
	a, b := dice.Dice(1), dice.Dice(1)
	numbers, texts := map[int]int{}, map[string]int{}
	for range 6000 {
		n := a.Below(6)
		if n != b.Below(6) {
			t.Fatal(n)
		}
		numbers[n]++
		texts[a.Pick("x", "y")+a.Maybe("z")]++
		b.Pick("x", "y")
		b.Maybe("z")
	}
	for n := range 6 {
		if numbers[n] < 800 {
			t.Error(numbers)
		}
	}
	for _, s := range []string{"x", "y", "xz", "yz"} {
		if texts[s] < 1200 {
			t.Error(texts)
		}
	}
	if len(numbers) != 6 || len(texts) != 4 {
		t.Error(numbers, texts)
	}
}
