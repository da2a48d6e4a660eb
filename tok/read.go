package tok

import (
	"strconv"
	"strings"

	"whirligig/api"
	"whirligig/val"
)

// The signs; a longer one stands ahead of those that it begins with, so that the first one found is the longest.
var signs = [...]string{"<=", ">=", "!=", "(", ")", ";", ":", "+", "-", "*", "/", "%", "<", ">", "="}

// read is the token at a place, where some byte but a blank stands, and the place behind it.
func read(line string, at int) (Token, int, api.Errno) {
	switch c := line[at]; {
	case letter(c):
		return word(line, at)
	case digit(c):
		return number(line, at)
	case c == '\'':
		return quote(line, at)
	}
	return sign(line, at)
}

// word is the word, or the path, at a place, and the place behind it.
func word(line string, at int) (Token, int, api.Errno) {
	end := behind(line, at, func(i int) bool {
		return letter(line[i]) || digit(line[i]) || line[i] == '_' || dot(line, i)
	})
	text := line[at:end]
	if len(text) > api.MaxEvent {
		return Token{}, 0, api.ErrLong
	}
	words := strings.Split(text, ".")
	for _, w := range words {
		if len(w) > api.MaxName {
			return Token{}, 0, api.ErrLong
		}
	}
	if len(words) > 1 {
		return Token{Kind: Path, Text: text}, end, api.OK
	}
	return Token{Kind: Word, Text: text}, end, api.OK
}

// number is the number at a place, and the place behind it.
func number(line string, at int) (Token, int, api.Errno) {
	end := behind(line, at, func(i int) bool { return digit(line[i]) })
	text := line[at:end]
	if len(text) > 1 && text[0] == '0' {
		return Token{}, 0, api.ErrForm
	}
	n, err := strconv.ParseInt(text, 10, 64)
	if err != nil {
		return Token{}, 0, api.ErrOver
	}
	return Token{Kind: Number, Text: text, N: n}, end, api.OK
}

// quote is the text at a place, and the place behind it.
func quote(line string, at int) (Token, int, api.Errno) {
	text, _, ends := strings.Cut(line[at+1:], "'")
	switch {
	case !ends:
		return Token{}, 0, api.ErrShort
	case len(text) > api.MaxText:
		return Token{}, 0, api.ErrLong
	case !val.Plain(text):
		return Token{}, 0, api.ErrForm
	}
	return Token{Kind: Quote, Text: text}, at + len(text) + 2, api.OK
}

// sign is the sign at a place, and the place behind it.
func sign(line string, at int) (Token, int, api.Errno) {
	for _, s := range signs {
		if strings.HasPrefix(line[at:], s) {
			return Token{Kind: Sign, Text: s}, at + len(s), api.OK
		}
	}
	return Token{}, 0, api.ErrForm
}

// blanks is the place behind all blanks from a place on.
func blanks(line string, at int) int {
	return behind(line, at, func(i int) bool { return line[i] == ' ' })
}

// behind is the first place from one on that doesn't belong there, or the line's end.
func behind(line string, at int, belongs func(i int) bool) int {
	for at < len(line) && belongs(at) {
		at++
	}
	return at
}

// dot tells whether a dot stands at a place that joins a word to the one behind it.
func dot(line string, at int) bool {
	return line[at] == '.' && at+1 < len(line) && letter(line[at+1])
}

// letter tells whether a word may begin with a byte.
func letter(c byte) bool { return 'a' <= c && c <= 'z' }

// digit tells whether a byte is a digit.
func digit(c byte) bool { return '0' <= c && c <= '9' }
