package token_test

import (
	"slices"
	"strings"
	"testing"

	"scarfjoint/api"
	"scarfjoint/token"
)

// draw is a sequence of numbers that is the same in every run.
type draw uint64

// below returns the next number from 0 to n - 1.
func (d *draw) below(n int) int {
	*d = *d*6364136223846793005 + 1442695040888963407
	return int(uint64(*d)>>33) % n
}

// text returns a text of some of the bytes, with at most n of them.
func (d *draw) text(bytes string, n int) string {
	var b strings.Builder
	for range d.below(n + 1) {
		b.WriteByte(bytes[d.below(len(bytes))])
	}
	return b.String()
}

// token returns a token of any kind.
func (d *draw) token() api.Token {
	t := api.Token{Kind: 1 + d.below(4), Line: d.below(4)}
	switch t.Kind {
	case api.TokenName:
		t.Text = string("aZm"[d.below(3)]) + d.text("az_AZ09", 19)
	case api.TokenNumber:
		t.Text = string("059"[d.below(3)]) + d.text("0123456789", 8)
	case api.TokenString:
		t.Text = d.text("a1 #_->~!;", 60)
	case api.TokenSign:
		t.Text = allSigns()[d.below(len(allSigns()))]
	}
	return t
}

// tokens returns at most n tokens.
func (d *draw) tokens(n int) []api.Token {
	var l []api.Token
	for range d.below(n + 1) {
		l = append(l, d.token())
	}
	return l
}

// space returns white space and comments, at least one byte.
func (d *draw) space() string {
	var b strings.Builder
	for range 1 + d.below(4) {
		b.WriteString([]string{" ", "\t", "\r", "\n", "\r\n", "#\n", "# a \"->\" \xff\x00\n"}[d.below(7)])
	}
	return b.String()
}

// P1.2: Tokens of what Write returns has the same kinds and texts.
func TestWriteThenTokens(t *testing.T) {
	d := draw(1)
	for range 2000 {
		l := d.tokens(30)
		s, e := token.Write(l)
		if e != api.OK {
			t.Fatalf("Write(%v): %d", l, e)
		}
		got, line, e := token.Tokens(s)
		if e != api.OK || line != 0 || !token.Same(got, l) {
			t.Fatalf("Tokens(%q) = %v, %d, %d, want %v", s, got, line, e, l)
		}
		if again, e := token.Write(got); again != s || e != api.OK {
			t.Fatalf("Write of Tokens(%q) = %q, %d", s, again, e)
		}
	}
}

// P1.2: white space and comments between tokens change nothing but Lines.
func TestSpaceBetweenTokens(t *testing.T) {
	d := draw(2)
	for range 2000 {
		l := d.tokens(30)
		var b strings.Builder
		b.WriteString(d.space())
		for i := range l {
			l[i].Line = 1 + strings.Count(b.String(), "\n")
			if l[i].Kind == api.TokenString {
				b.WriteString("\"" + l[i].Text + "\"")
			} else {
				b.WriteString(l[i].Text)
			}
			b.WriteString(d.space())
		}
		expectTokens(t, b.String(), l...)
		expectTokens(t, b.String()+"# no line feed", l...)
	}
}

// P1.2: writing the tokens of a text and reading them again gives the same list.
func TestTokensThenWrite(t *testing.T) {
	d := draw(3)
	read := 0
	for range 20000 {
		s := d.text("abZ019_\"\"-><=!#;{ \t\r\n\n", 40)
		l, line, e := token.Tokens(s)
		if e != api.OK {
			if len(l) != 0 || line < 1 || line > 1+strings.Count(s, "\n") {
				t.Fatalf("Tokens(%q) = %v, %d, %d", s, l, line, e)
			}
			continue
		}
		read++
		written, e := token.Write(l)
		got, _, again := token.Tokens(written)
		if e != api.OK || again != api.OK || !token.Same(got, l) {
			t.Fatalf("Tokens(%q) = %v, written %q and read as %v", s, l, written, got)
		}
	}
	if read < 1000 {
		t.Errorf("only %d texts have tokens", read)
	}
}

// P1.1 and P1.2: the separators that Write adds can lead beyond the bound of 20000 bytes.
func TestWriteOfDenseText(t *testing.T) {
	dense := strings.Repeat("\""+strings.Repeat("s", 60)+"\"", 322)
	l, _, e := token.Tokens(dense)
	if len(l) != 322 || e != api.OK {
		t.Fatalf("Tokens of %d bytes: %d tokens, %d", len(dense), len(l), e)
	}
	expectWriteError(t, l, api.ErrTooLarge)
}

// P1: the functions terminate and do not panic; with an error, the other results are zero, but for the line.
func TestAnyArguments(t *testing.T) {
	d := draw(4)
	every := make([]byte, 256)
	for b := range every {
		every[b] = byte(b)
	}
	for k := range 5000 {
		s := d.text([]string{string(every), "aZ9_ \""}[k%2], 5+25*(k%2))
		if l, line, e := token.Tokens(s); e != api.OK && len(l) != 0 || e == api.OK && line != 0 {
			t.Fatalf("Tokens(%q) = %v, %d, %d", s, l, line, e)
		}
		l := []api.Token{{Kind: d.below(8) - 2, Text: s, Line: d.below(9) - 4}, {Kind: d.below(8) - 2, Text: s[:len(s)/2]}}
		before := slices.Clone(l)
		if written, e := token.Write(l); e != api.OK && written != "" {
			t.Fatalf("Write(%v) = %q, %d", l, written, e)
		}
		if !slices.Equal(l, before) {
			t.Fatalf("Write changed %v to %v", before, l)
		}
		if n, e := token.Number(s); e != api.OK && n != 0 {
			t.Fatalf("Number(%q) = %d, %d", s, n, e)
		}
		token.Same(l, before[:1])
		got, _, e := token.Tokens(s)
		one := e == api.OK && len(got) == 1 && got[0] == name(s)
		if token.IsName(s) != one {
			t.Fatalf("IsName(%q) is %v, but its tokens are %v", s, !one, got)
		}
	}
	huge := strings.Repeat("a", 1<<20)
	expectTokensError(t, huge, 0, api.ErrTooLarge)
	for kind := -1; kind <= 6; kind++ {
		expectWriteError(t, []api.Token{{Kind: kind, Text: huge}}, api.ErrInvalid)
	}
	if _, e := token.Number(strings.Repeat("0", 1<<20)); e != api.ErrSyntax || token.IsName(huge) {
		t.Errorf("a name or a number of 2^20 bytes")
	}
}
