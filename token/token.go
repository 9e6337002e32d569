// Package token is layer 1: see shared/doc/01-token.md.
package token

import (
	"slices"
	"strings"

	"scarfjoint/api"
)

// The bounds of texts and of tokens.
const (
	maxBytes  = 20000
	maxTokens = 4000
	maxName   = 20
	maxDigits = 9
	maxString = 60
)

// Tokens returns the tokens of a text, or the line of the error.
func Tokens(s string) ([]api.Token, int, api.Errno) {
	if len(s) > maxBytes {
		return nil, 0, api.ErrTooLarge
	}
	var l []api.Token
	at, line := skip(s, 0, 1)
	for at < len(s) {
		kind, size, e := scan(s[at:])
		if e == api.OK && len(l) == maxTokens {
			e = api.ErrTooLarge
		}
		if e != api.OK {
			return nil, line, e
		}
		l = append(l, api.Token{Kind: kind, Text: unquote(kind, s[at:at+size]), Line: line})
		at, line = skip(s, at+size, line)
	}
	return l, 0, api.OK
}

// Write returns the text of tokens: single spaces, a new line for a new Line.
func Write(l []api.Token) (string, api.Errno) {
	if len(l) > maxTokens {
		return "", api.ErrTooLarge
	}
	var b strings.Builder
	for i, t := range l {
		if !isText(t.Kind, t.Text) {
			return "", api.ErrInvalid
		}
		if i > 0 {
			b.WriteByte(separator(l[i-1], t))
		}
		b.WriteString(quote(t))
	}
	if b.Len() > maxBytes {
		return "", api.ErrTooLarge
	}
	return b.String(), api.OK
}

// IsName reports whether a string is a name.
func IsName(s string) bool {
	return isText(api.TokenName, s)
}

// Number returns the value of a number token's text.
func Number(s string) (int, api.Errno) {
	if !isText(api.TokenNumber, s) {
		return 0, api.ErrSyntax
	}
	n := 0
	for i := range len(s) {
		n = 10*n + int(s[i]-'0')
	}
	return n, api.OK
}

// Same reports whether two lists have the same kinds and texts (lines do not matter).
func Same(a, b []api.Token) bool {
	return slices.EqualFunc(a, b, func(x, y api.Token) bool {
		return x.Kind == y.Kind && x.Text == y.Text
	})
}

// separator returns the byte that Write puts between two tokens.
func separator(a, b api.Token) byte {
	if a.Line != b.Line {
		return '\n'
	}
	return ' '
}

// quote returns a token as it stands in a text.
func quote(t api.Token) string {
	if t.Kind == api.TokenString {
		return "\"" + t.Text + "\""
	}
	return t.Text
}

// unquote returns the Text of a token that stands in a text as s.
func unquote(kind int, s string) string {
	if kind == api.TokenString {
		return s[1 : len(s)-1]
	}
	return s
}
