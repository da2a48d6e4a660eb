package val_test

import (
	"math"
	"strconv"
	"strings"
	"testing"

	"whirligig/api"
	"whirligig/val"
)

// full is the longest text that may be.
var full = strings.Repeat("x", api.MaxText)

// rights are right values of each kind, edges among them.
func rights() []val.Value {
	var out []val.Value
	for _, n := range []int64{math.MinInt64, math.MinInt64 + 1, math.MinInt64 / 2, -1 << 32, -1<<31 - 1, -3037000500, -7, -2, -1, 0, 1, 2, 7, 3037000499, 3037000500, 1 << 31, 1 << 32, 1 << 62, math.MaxInt64 - 1, math.MaxInt64} {
		out = append(out, val.Value{Kind: val.Int, N: n})
	}
	for _, n := range []int64{0, 1} {
		out = append(out, val.Value{Kind: val.Bool, N: n})
	}
	for _, s := range []string{"", " ", "~", "a", "ab", "b", "B", "true", "12", `"\`, full[1:], full, full[:24], full[:25]} {
		out = append(out, val.Value{Kind: val.Text, S: s})
	}
	return out
}

// wrongs are values that may not be.
func wrongs() []val.Value {
	return []val.Value{
		{}, {N: 1}, {S: "a"}, {Kind: -1}, {Kind: 4}, {Kind: 4, N: 1}, {Kind: math.MinInt}, {Kind: math.MaxInt},
		{Kind: val.Int, S: "a"}, {Kind: val.Int, N: 1, S: " "},
		{Kind: val.Bool, N: 2}, {Kind: val.Bool, N: -1}, {Kind: val.Bool, N: math.MinInt64}, {Kind: val.Bool, S: "a"}, {Kind: val.Bool, N: 1, S: "a"},
		{Kind: val.Text, N: 1}, {Kind: val.Text, N: -1, S: "a"}, {Kind: val.Text, S: "'"}, {Kind: val.Text, S: "a\nb"}, {Kind: val.Text, S: full + "x"},
	}
}

func TestNumbersOfConstants(t *testing.T) {
	for i, k := range []int{val.Int, val.Bool, val.Text} {
		if k != i+1 {
			t.Error("kind", i+1, k)
		}
	}
	for i, op := range []int{val.Not, val.Neg, val.Mul, val.Div, val.Rem, val.Add, val.Sub, val.Less, val.AtMost, val.More, val.AtLeast, val.Same, val.Unlike, val.And, val.Or} {
		if op != i+1 {
			t.Error("operation", i+1, op)
		}
	}
}

// P1.1
func TestMade(t *testing.T) {
	for _, n := range []int64{math.MinInt64, -1, 0, 1, math.MaxInt64} {
		if v := val.Of(n); v != (val.Value{Kind: 1, N: n}) {
			t.Error(n, v)
		}
	}
	if v := val.Truth(true); v != (val.Value{Kind: 2, N: 1}) {
		t.Error(v)
	}
	if v := val.Truth(false); v != (val.Value{Kind: 2}) {
		t.Error(v)
	}
	for _, s := range []string{"", "a b", "'", "\x00\xff", "ä", full, full + "x", strings.Repeat("'", 1000)} {
		if v := val.Word(s); v != (val.Value{Kind: 3, S: s}) {
			t.Errorf("%q: %v", s, v)
		}
	}
}

// P1.1
func TestPlain(t *testing.T) {
	for b := range 256 {
		want := b >= 0x20 && b <= 0x7e && b != 0x27
		for _, s := range []string{string([]byte{byte(b)}), "a" + string([]byte{byte(b)}) + "c", full[1:] + string([]byte{byte(b)}), string([]byte{byte(b)}) + full[1:]} {
			if val.Plain(s) != want {
				t.Errorf("%q", s)
			}
		}
	}
	for n := range 100 {
		if val.Plain(strings.Repeat(" ", n)) != (n <= 48) {
			t.Error(n)
		}
	}
	if val.Plain("ä") || val.Plain(strings.Repeat("a", 1<<20)) {
		t.Error("not a text")
	}
}

// P1.1
func TestRight(t *testing.T) {
	for _, v := range rights() {
		if !v.Right() {
			t.Error(v)
		}
	}
	for _, v := range wrongs() {
		if v.Right() {
			t.Error(v)
		}
	}
}

// P1.1
func TestYes(t *testing.T) {
	for _, v := range append(rights(), wrongs()...) {
		if v.Yes() != (v.Kind == 2 && v.N != 0) {
			t.Error(v)
		}
	}
	if !val.Truth(true).Yes() || val.Truth(false).Yes() || val.Of(1).Yes() || val.Word("true").Yes() || !(val.Value{Kind: val.Bool, N: -3}).Yes() {
		t.Error("not as it should be")
	}
}

// P1.2
func TestShow(t *testing.T) {
	for want, v := range map[string]val.Value{
		"0": val.Of(0), "7": val.Of(7), "-7": val.Of(-7), "100": val.Of(100),
		"9223372036854775807": val.Of(math.MaxInt64), "-9223372036854775808": val.Of(math.MinInt64),
		"true": val.Truth(true), "false": val.Truth(false),
		"''": val.Word(""), "'a b'": val.Word("a b"), "'true'": val.Word("true"), "'-7'": val.Word("-7"), `'"\n'`: val.Word(`"\n`),
		"'" + full + "'": val.Word(full),
	} {
		if got := v.Show(); got != want {
			t.Errorf("%q, not %q", got, want)
		}
	}
}

// P1.2
func TestReadWhatIsShown(t *testing.T) {
	for _, v := range rights() {
		if got, e := val.Read(v.Show()); got != v || e != api.OK {
			t.Error(v, got, e)
		}
	}
	for n := int64(-1100); n < 1100; n++ {
		if got, e := val.Read(strconv.FormatInt(n, 10)); got != val.Of(n) || e != api.OK {
			t.Error(n, got, e)
		}
	}
}

// P1.2
func TestReadNothing(t *testing.T) {
	for _, s := range []string{
		"", " ", "-", "--1", "+1", "+0", "-0", "00", "01", "-01", "1 ", " 1", "1_0", "0x1", "0b1", "1e3", "1.0", "1\n", "- 1", "−1", "１",
		"9223372036854775808", "-9223372036854775809", "18446744073709551616", strings.Repeat("9", 1000), strings.Repeat("0", 1000),
		"True", "FALSE", "true ", " true", "t", "tru", "truefalse", "nil",
		"'", "'''", "''''", "'a", "a'", "a", "'a'b", "'a''b'", " 'a'", "'a' ", "\"a\"", "'\n'", "'\x7f'", "'\x1f'", "'\xff'", "'ä'", "'" + full + "x'", "'" + strings.Repeat("x", 1<<20) + "'",
	} {
		if v, e := val.Read(s); v != (val.Value{}) || e != api.ErrForm {
			t.Errorf("%q: %v %v", s, v, e)
		}
	}
}

// P1.2
func TestReadShortTexts(t *testing.T) {
	letters := "'-019 tar\x1f\x7f"
	var try func(s string, left int)
	try = func(s string, left int) {
		v, e := val.Read(s)
		if e == api.OK && (!v.Right() || v.Show() != s) {
			t.Errorf("%q: %v", s, v)
		}
		if e != api.OK && (e != api.ErrForm || v != (val.Value{})) {
			t.Errorf("%q: %v %v", s, v, e)
		}
		for i := 0; left > 0 && i < len(letters); i++ {
			try(s+letters[i:i+1], left-1)
		}
	}
	try("", 4)
}
