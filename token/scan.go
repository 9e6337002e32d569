package token

import (
	"strings"

	"scarfjoint/api"
)

// signs has all bytes that are signs by themselves.
const signs = "{}()[],;:=+-*<>!&|.?"

// skip passes over white space and comments from a place in a line on, and returns where the next token begins, and in which line.
func skip(s string, at, line int) (int, int) {
	comment := false
	for ; at < len(s); at++ {
		switch c := s[at]; {
		case c == '\n':
			comment = false
			line++
		case c == '#':
			comment = true
		case !comment && !isBlank(c):
			return at, line
		}
	}
	return at, line
}

// scan returns the kind of the token with which a text begins, and how many bytes it takes there.
func scan(s string) (int, int, api.Errno) {
	switch {
	case s == "":
		return 0, 0, api.ErrSyntax
	case isLetter(s[0]):
		return scanRun(s, api.TokenName, maxName, isNameByte)
	case isDigit(s[0]):
		return scanRun(s, api.TokenNumber, maxDigits, isDigit)
	case s[0] == '"':
		return scanString(s)
	}
	return scanSign(s)
}

// scanRun scans a token that is as long as bytes of one sort follow.
func scanRun(s string, kind, most int, belongs func(byte) bool) (int, int, api.Errno) {
	size := prefix(s, belongs)
	if size > most {
		return 0, 0, api.ErrTooLarge
	}
	return kind, size, api.OK
}

// scanString scans a token that begins with a double quote.
func scanString(s string) (int, int, api.Errno) {
	size := prefix(s[1:], isStringByte)
	end := 1 + size
	if end == len(s) || s[end] != '"' {
		return 0, 0, api.ErrSyntax
	}
	if size > maxString {
		return 0, 0, api.ErrTooLarge
	}
	return api.TokenString, end + 1, api.OK
}

// scanSign scans a sign: the longer one, if two begin here.
func scanSign(s string) (int, int, api.Errno) {
	if len(s) >= 2 {
		switch s[:2] {
		case "->", "<=", ">=", "==", "!=":
			return api.TokenSign, 2, api.OK
		}
	}
	if strings.IndexByte(signs, s[0]) < 0 {
		return 0, 0, api.ErrSyntax
	}
	return api.TokenSign, 1, api.OK
}

// prefix returns how many bytes of one sort a text begins with.
func prefix(s string, belongs func(byte) bool) int {
	n := 0
	for n < len(s) && belongs(s[n]) {
		n++
	}
	return n
}

// isText reports whether a string is the Text of a token of a kind.
func isText(kind int, s string) bool {
	// The Text of a string token lacks its quotes, so that scan does not apply to it.
	if kind == api.TokenString {
		return len(s) <= maxString && prefix(s, isStringByte) == len(s)
	}
	k, size, e := scan(s)
	return e == api.OK && k == kind && size == len(s)
}

func isBlank(c byte) bool {
	return c == ' ' || c == '\t' || c == '\r' || c == '\n'
}

func isLetter(c byte) bool {
	return 'a' <= c && c <= 'z' || 'A' <= c && c <= 'Z'
}

func isDigit(c byte) bool {
	return '0' <= c && c <= '9'
}

func isNameByte(c byte) bool {
	return isLetter(c) || isDigit(c) || c == '_'
}

func isStringByte(c byte) bool {
	return 32 <= c && c <= 126 && c != '"'
}
