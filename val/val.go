// Package val is layer 1: values, and what is reckoned with them.
package val

import (
	"strconv"

	"whirligig/api"
)

// The kinds.
const (
	Int = 1 + iota
	Bool
	Text
)

// Value is a number, a truth, or a text.
type Value struct {
	Kind int
	N    int64
	S    string
}

// Of is a number.
func Of(n int64) Value { return Value{Kind: Int, N: n} }

// Truth is a truth.
func Truth(b bool) Value {
	if b {
		return Value{Kind: Bool, N: 1}
	}
	return Value{Kind: Bool}
}

// Word is a text.
func Word(s string) Value { return Value{Kind: Text, S: s} }

// Plain tells whether a text may be.
func Plain(s string) bool {
	if len(s) > api.MaxText {
		return false
	}
	for i := range len(s) {
		if s[i] < ' ' || s[i] > '~' || s[i] == '\'' {
			return false
		}
	}
	return true
}

// Right tells whether a value may be.
func (v Value) Right() bool {
	switch v.Kind {
	case Int:
		return v.S == ""
	case Bool:
		return v.S == "" && (v.N == 0 || v.N == 1)
	case Text:
		return v.N == 0 && Plain(v.S)
	}
	return false
}

// Yes tells whether a value is the truth.
func (v Value) Yes() bool { return v.Kind == Bool && v.N != 0 }

// Show is a value as a text.
func (v Value) Show() string {
	switch v.Kind {
	case Int:
		return strconv.FormatInt(v.N, 10)
	case Bool:
		return strconv.FormatBool(v.Yes())
	case Text:
		return "'" + v.S + "'"
	}
	return ""
}

// Read is the value that a text shows.
func Read(s string) (Value, api.Errno) {
	v := guess(s)
	// One value has one text: whatever else reads alike (+1, 01, -0) isn't it.
	if !v.Right() || v.Show() != s {
		return Value{}, api.ErrForm
	}
	return v, api.OK
}

// guess is the only value that may be shown so, if any is.
func guess(s string) Value {
	switch {
	case s == "true" || s == "false":
		return Truth(s == "true")
	case len(s) >= 2 && s[0] == '\'':
		return Word(s[1 : len(s)-1])
	}
	n, err := strconv.ParseInt(s, 10, 64)
	if err != nil {
		return Value{}
	}
	return Of(n)
}
