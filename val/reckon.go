package val

import (
	"cmp"

	"whirligig/api"
)

// What is reckoned.
const (
	Not = 1 + iota
	Neg
	Mul
	Div
	Rem
	Add
	Sub
	Less
	AtMost
	More
	AtLeast
	Same
	Unlike
	And
	Or
)

// Result is the kind of what is reckoned of such kinds; false: it can't be.
func Result(op, a, b int) (int, bool) {
	if !takes(op, a) || !alone(op) && a != b {
		return 0, false
	}
	switch op {
	case Neg, Mul, Div, Rem, Add, Sub:
		return a, true
	}
	return Bool, true
}

// takes tells whether an operation is reckoned of values of a kind.
func takes(op, kind int) bool {
	switch op {
	case Neg, Mul, Div, Rem, Sub:
		return kind == Int
	case Add, Less, AtMost, More, AtLeast:
		return kind == Int || kind == Text
	case Same, Unlike:
		return kind == Int || kind == Bool || kind == Text
	case Not, And, Or:
		return kind == Bool
	}
	return false
}

// alone tells whether an operation is reckoned of one value.
func alone(op int) bool { return op == Not || op == Neg }

// Reckon is what comes of one value, or of two.
func Reckon(op int, a Value, more ...Value) (Value, api.Errno) {
	var b Value
	switch {
	case alone(op) && len(more) == 0:
	case !alone(op) && len(more) == 1:
		b = more[0]
	default:
		return Value{}, api.ErrType
	}
	if _, ok := Result(op, a.Kind, b.Kind); !ok {
		return Value{}, api.ErrType
	}
	switch op {
	case Not:
		return Truth(!a.Yes()), api.OK
	case And:
		return Truth(a.Yes() && b.Yes()), api.OK
	case Or:
		return Truth(a.Yes() || b.Yes()), api.OK
	case Same:
		return Truth(a == b), api.OK
	case Unlike:
		return Truth(a != b), api.OK
	case Less, AtMost, More, AtLeast:
		return Truth(stand(op, order(a, b))), api.OK
	}
	if a.Kind == Text {
		return join(a.S, b.S)
	}
	return number(op, a.N, b.N)
}

// order is below 0, 0, or above it, as the first value is to the second one.
func order(a, b Value) int {
	if a.Kind == Text {
		return cmp.Compare(a.S, b.S)
	}
	return cmp.Compare(a.N, b.N)
}

// stand tells whether values of such an order stand so to one another.
func stand(op, order int) bool {
	switch op {
	case Less:
		return order < 0
	case AtMost:
		return order <= 0
	case More:
		return order > 0
	}
	return order >= 0
}

// join is one text behind the other.
func join(a, b string) (Value, api.Errno) {
	if len(a)+len(b) > api.MaxText {
		return Value{}, api.ErrLong
	}
	return Word(a + b), api.OK
}

// number is what comes of numbers.
func number(op int, a, b int64) (Value, api.Errno) {
	if (op == Div || op == Rem) && b == 0 {
		return Value{}, api.ErrZero
	}
	var n int64
	fits := true
	switch op {
	case Neg:
		n, fits = minus(0, a)
	case Mul:
		n, fits = times(a, b)
	case Div:
		n, fits = quotient(a, b)
	case Rem:
		n = a % b
	case Add:
		n, fits = plus(a, b)
	case Sub:
		n, fits = minus(a, b)
	}
	if !fits {
		return Value{}, api.ErrOver
	}
	return Of(n), api.OK
}

// plus is the sum; false: it is beyond 64 bits.
func plus(a, b int64) (int64, bool) {
	n := a + b
	return n, (n > a) == (b > 0)
}

// minus is the difference; false: it is beyond 64 bits.
func minus(a, b int64) (int64, bool) {
	n := a - b
	return n, (n < a) == (b > 0)
}

// times is the product; false: it is beyond 64 bits.
func times(a, b int64) (int64, bool) {
	if a == 0 || b == 0 {
		return 0, true
	}
	n := a * b
	// The quotient alone wouldn't do: that of the least number by -1 wraps round to the least one again.
	return n, n/b == a && (n < 0) == ((a < 0) != (b < 0))
}

// quotient is the quotient by what isn't 0; false: it is beyond 64 bits.
func quotient(a, b int64) (int64, bool) {
	n := a / b
	// Only the least number by -1 is too great, and wraps round to one below 0.
	return n, !(a < 0 && b < 0 && n < 0)
}
