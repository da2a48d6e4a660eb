package val_test

import (
	"math"
	"math/big"
	"strings"
	"testing"

	"whirligig/api"
	"whirligig/val"
)

// inNumbers, inTexts and inTruths say, operation by operation, of which kind it is reckoned.
const (
	inNumbers = " 2 3 4 5 6 7 8 9 10 11 12 13 "
	inTexts   = " 6 8 9 10 11 12 13 "
	inTruths  = " 1 12 13 14 15 "
	toTruths  = " 1 8 9 10 11 12 13 14 15 "
)

// among tells whether a number stands in such a row.
func among(row string, n int) bool {
	return n > 0 && n < 100 && strings.Contains(row, " "+big.NewInt(int64(n)).String()+" ")
}

// result is what Result should tell.
func result(op, a, b int) (int, bool) {
	rows := []string{"", inNumbers, inTruths, inTexts}
	if a < 1 || a > 3 || !among(rows[a], op) || op > 2 && a != b {
		return 0, false
	}
	if among(toTruths, op) {
		return val.Bool, true
	}
	return a, true
}

// P1.3
func TestResult(t *testing.T) {
	kinds := []int{math.MinInt, -1, 0, 1, 2, 3, 4, 5, math.MaxInt}
	for op := -3; op < 40; op++ {
		for _, a := range kinds {
			for _, b := range kinds {
				k, ok := val.Result(op, a, b)
				want, may := result(op, a, b)
				if k != want || ok != may {
					t.Error(op, a, b, k, ok)
				}
			}
		}
	}
	for _, op := range []int{math.MinInt, math.MaxInt} {
		if k, ok := val.Result(op, val.Int, val.Int); k != 0 || ok {
			t.Error(op, k, ok)
		}
	}
}

// P1.3
func TestResultSaysWhatComes(t *testing.T) {
	for op := -1; op < 20; op++ {
		for _, a := range rights() {
			for _, b := range rights() {
				v, e := reckon(op, a, b)
				k, ok := val.Result(op, a.Kind, b.Kind)
				if ok == (e == api.ErrType) || e == api.OK && v.Kind != k {
					t.Error(op, a, b, v, e)
				}
			}
		}
	}
}

// reckon hands in a second value just with what takes one.
func reckon(op int, a, b val.Value) (val.Value, api.Errno) {
	if op == val.Not || op == val.Neg {
		return val.Reckon(op, a)
	}
	return val.Reckon(op, a, b)
}

// number is what comes of numbers, reckoned without a bound.
func number(op int, x, y int64) (val.Value, api.Errno) {
	a, b, n := big.NewInt(x), big.NewInt(y), new(big.Int)
	if (op == val.Div || op == val.Rem) && y == 0 {
		return val.Value{}, api.ErrZero
	}
	switch op {
	case val.Neg:
		n.Neg(a)
	case val.Mul:
		n.Mul(a, b)
	case val.Div:
		n.Quo(a, b)
	case val.Rem:
		n.Rem(a, b)
	case val.Add:
		n.Add(a, b)
	case val.Sub:
		n.Sub(a, b)
	default:
		return stands(op, a.Cmp(b)), api.OK
	}
	if !n.IsInt64() {
		return val.Value{}, api.ErrOver
	}
	return val.Value{Kind: 1, N: n.Int64()}, api.OK
}

// truth is a truth, made by hand.
func truth(b bool) val.Value {
	v := val.Value{Kind: 2}
	if b {
		v.N = 1
	}
	return v
}

// stands is how values stand to one another, whose order is known.
func stands(op, order int) val.Value {
	yes := map[int][]int{val.Less: {-1}, val.AtMost: {-1, 0}, val.More: {1}, val.AtLeast: {0, 1}, val.Same: {0}, val.Unlike: {-1, 1}}
	for _, o := range yes[op] {
		if o == order {
			return truth(true)
		}
	}
	return truth(false)
}

// expected is what Reckon should tell of right values that may be reckoned so.
func expected(op int, a, b val.Value) (val.Value, api.Errno) {
	switch a.Kind {
	case val.Int:
		return number(op, a.N, b.N)
	case val.Text:
		if op != val.Add {
			return stands(op, strings.Compare(a.S, b.S)), api.OK
		}
		if len(a.S+b.S) > 48 {
			return val.Value{}, api.ErrLong
		}
		return val.Value{Kind: 3, S: a.S + b.S}, api.OK
	}
	switch op {
	case val.Not:
		return truth(a.N == 0), api.OK
	case val.And:
		return truth(a.N == 1 && b.N == 1), api.OK
	case val.Or:
		return truth(a.N == 1 || b.N == 1), api.OK
	case val.Same:
		return truth(a.N == b.N), api.OK
	}
	return truth(a.N != b.N), api.OK
}

// P1.4
func TestReckonAll(t *testing.T) {
	for op := -2; op < 20; op++ {
		for _, a := range rights() {
			for _, b := range rights() {
				want, e := val.Value{}, api.ErrType
				if _, ok := result(op, a.Kind, b.Kind); ok {
					want, e = expected(op, a, b)
				}
				v, got := reckon(op, a, b)
				if v != want || got != e {
					t.Error(op, a, b, v, got)
				}
				if got == api.OK && !v.Right() {
					t.Error("not right:", op, a, b, v)
				}
			}
		}
	}
}

// P1.4
func TestReckonNumbers(t *testing.T) {
	// A rule of its own, with wrap-round, goes through numbers of all sizes.
	x := uint64(1)
	next := func() int64 {
		x = x*6364136223846793005 + 1442695040888963407
		return int64(x) >> (x >> 7 % 64)
	}
	for range 20000 {
		a, b := next(), next()
		for op := val.Neg; op <= val.Unlike; op++ {
			want, e := number(op, a, b)
			if v, got := reckon(op, val.Of(a), val.Of(b)); v != want || got != e {
				t.Fatal(op, a, b, v, got)
			}
		}
	}
}

// P1.4
func TestReckonHowMany(t *testing.T) {
	for op := -2; op < 20; op++ {
		for _, v := range []val.Value{val.Of(0), val.Of(1), val.Truth(true), val.Word("a")} {
			for n := range 5 {
				more := make([]val.Value, n)
				for i := range more {
					more[i] = v
				}
				right := n == 1
				if op == val.Not || op == val.Neg {
					right = n == 0
				}
				_, may := result(op, v.Kind, v.Kind)
				got, e := val.Reckon(op, v, more...)
				if (e == api.ErrType) == (right && may) || e != api.OK && got != (val.Value{}) {
					t.Error(op, v, n, got, e)
				}
			}
		}
	}
}

// P1.4
func TestReckonOrderOfErrors(t *testing.T) {
	for i, x := range []struct {
		op   int
		a    val.Value
		more []val.Value
		e    api.Errno
	}{
		{val.Div, val.Of(1), []val.Value{val.Of(0), val.Of(0)}, api.ErrType},
		{val.Div, val.Word("a"), []val.Value{val.Of(0)}, api.ErrType},
		{val.Rem, val.Truth(true), []val.Value{val.Of(0)}, api.ErrType},
		{val.Div, val.Of(math.MinInt64), []val.Value{val.Of(0)}, api.ErrZero},
		{val.Rem, val.Of(0), []val.Value{val.Of(0)}, api.ErrZero},
		{val.Add, val.Word(full), []val.Value{val.Of(math.MaxInt64)}, api.ErrType},
		{val.Add, val.Word(full), []val.Value{val.Word(full), val.Word(full)}, api.ErrType},
		{val.Neg, val.Of(math.MinInt64), []val.Value{val.Of(1)}, api.ErrType},
	} {
		if v, e := val.Reckon(x.op, x.a, x.more...); v != (val.Value{}) || e != x.e {
			t.Error(i, v, e)
		}
	}
}

// P1.4, and the examples of the chapter.
func TestReckonExamples(t *testing.T) {
	for i, x := range []struct {
		op   int
		a, b val.Value
		show string
	}{
		{val.Div, val.Of(-7), val.Of(2), "-3"}, {val.Rem, val.Of(-7), val.Of(2), "-1"},
		{val.Add, val.Word("ab"), val.Word("c"), "'abc'"}, {val.Add, val.Word(""), val.Word(full), "'" + full + "'"},
		{val.Less, val.Word("Z"), val.Word("a"), "true"}, {val.Less, val.Word("10"), val.Word("9"), "true"}, {val.Less, val.Of(10), val.Of(9), "false"},
		{val.Rem, val.Of(math.MinInt64), val.Of(-1), "0"}, {val.Sub, val.Of(-1), val.Of(math.MinInt64), "9223372036854775807"},
	} {
		if v, e := val.Reckon(x.op, x.a, x.b); v.Show() != x.show || e != api.OK {
			t.Error(i, v, e)
		}
	}
}

// P1.4: what is handed in stays as it is.
func TestReckonChangesNothing(t *testing.T) {
	row := []val.Value{val.Of(2), val.Of(3)}
	val.Reckon(val.Add, val.Of(1), row[:1]...)
	val.Reckon(val.Add, val.Of(1), row...)
	if row[0] != val.Of(2) || row[1] != val.Of(3) {
		t.Error(row)
	}
}

// P1: nothing panics, whatever it is given.
func TestEndsAndNeverPanics(t *testing.T) {
	all := append(rights(), wrongs()...)
	for _, v := range all {
		v.Show()
		val.Read(v.S)
	}
	for _, op := range []int{math.MinInt, -1, 0, 1, 2, 3, 4, 5, 6, 7, 8, 9, 10, 11, 12, 13, 14, 15, 16, math.MaxInt} {
		for _, a := range all {
			val.Reckon(op, a)
			for _, b := range all {
				val.Reckon(op, a, b)
				val.Reckon(op, a, b, a)
				val.Result(op, a.Kind, b.Kind)
			}
		}
	}
}
