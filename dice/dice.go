// Package dice gives the tests of all layers what looks as if it hung on nothing, and is the same each time they run. No layer calls it.
package dice

// Dice is a row of numbers.
type Dice uint64

// Below is the next number, from 0 to n - 1.
func (d *Dice) Below(n int) int {
	*d = *d*6364136223846793005 + 1442695040888963407
	return int(*d>>33) % n
}

// One is one of a list.
func One[T any](d *Dice, l []T) T { return l[d.Below(len(l))] }

// Pick is one of some texts.
func (d *Dice) Pick(l ...string) string { return One(d, l) }

// Maybe is a text, or nothing.
func (d *Dice) Maybe(s string) string {
	if d.Below(2) == 0 {
		return ""
	}
	return s
}
