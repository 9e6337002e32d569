package token_test

import (
	"slices"
	"strings"
	"testing"

	"scarfjoint/api"
	"scarfjoint/token"
)

func name(s string) api.Token   { return api.Token{Kind: api.TokenName, Text: s, Line: 1} }
func number(s string) api.Token { return api.Token{Kind: api.TokenNumber, Text: s, Line: 1} }
func quoted(s string) api.Token { return api.Token{Kind: api.TokenString, Text: s, Line: 1} }
func sign(s string) api.Token   { return api.Token{Kind: api.TokenSign, Text: s, Line: 1} }

func inLine(line int, t api.Token) api.Token {
	t.Line = line
	return t
}

// allSigns returns the signs of the chapter.
func allSigns() []string {
	return strings.Fields("-> <= >= == != { } ( ) [ ] , ; : = + - * < > ! & | . ?")
}

func expectTokens(t *testing.T, s string, want ...api.Token) {
	t.Helper()
	l, line, e := token.Tokens(s)
	if !slices.Equal(l, want) || line != 0 || e != api.OK {
		t.Errorf("Tokens(%.80q) = %v, %d, %d, want %v, 0, 0", s, l, line, e, want)
	}
}

func expectTokensError(t *testing.T, s string, line int, e api.Errno) {
	t.Helper()
	l, gotLine, got := token.Tokens(s)
	if len(l) != 0 || gotLine != line || got != e {
		t.Errorf("Tokens(%.80q) = %d tokens, %d, %d, want none, %d, %d", s, len(l), gotLine, got, line, e)
	}
}

func expectWrite(t *testing.T, l []api.Token, want string) {
	t.Helper()
	if s, e := token.Write(l); s != want || e != api.OK {
		t.Errorf("Write(%v) = %q, %d, want %q, 0", l, s, e, want)
	}
}

func expectWriteError(t *testing.T, l []api.Token, e api.Errno) {
	t.Helper()
	if s, got := token.Write(l); s != "" || got != e {
		t.Errorf("Write of %d tokens = %.80q, %d, want no text, %d", len(l), s, got, e)
	}
}

// P1.1: the chapter's examples.
func TestExamples(t *testing.T) {
	expectTokens(t, "edge a->b # x", name("edge"), name("a"), sign("->"), name("b"))
	lines := []api.Token{name("edge"), name("a"), sign("->"), inLine(2, name("b"))}
	expectTokens(t, "edge a->\nb # x", lines...)
	expectWrite(t, lines, "edge a ->\nb")
	expectTokens(t, "<==", sign("<="), sign("="))
	expectTokens(t, "12ab", number("12"), name("ab"))
	if n, e := token.Number("007"); n != 7 || e != api.OK {
		t.Errorf("Number(\"007\") = %d, %d", n, e)
	}
}

// P1.1: white space and comments.
func TestTokensSeparators(t *testing.T) {
	for _, s := range []string{"", " ", "\n", "\t\r \n", "#", "# a", "# a\n", "#\n#\n", "\r\n# \"\r#\n"} {
		expectTokens(t, s)
	}
	expectTokens(t, " \t\r\na", inLine(2, name("a")))
	expectTokens(t, "a#b\nc", name("a"), inLine(2, name("c")))
	expectTokens(t, "a # \"b\n\"c\" # d", name("a"), inLine(2, quoted("c")))
	expectTokens(t, "a\rb\rc", name("a"), name("b"), name("c"))
	expectTokens(t, "a # \r b\n# c\n\nd", name("a"), inLine(4, name("d")))
	var comment strings.Builder
	for b := range 256 {
		if b != '\n' {
			comment.WriteByte(byte(b))
		}
	}
	expectTokens(t, "a #"+comment.String()+"\nb", name("a"), inLine(2, name("b")))
}

// P1.1: where names, numbers and signs end.
func TestTokensLongest(t *testing.T) {
	expectTokens(t, "aZ_09 A_ z__9", name("aZ_09"), name("A_"), name("z__9"))
	expectTokens(t, "a1 1a 12ab3_", name("a1"), number("1"), name("a"), number("12"), name("ab3_"))
	expectTokens(t, "0 000 90", number("0"), number("000"), number("90"))
	expectTokens(t, "-12.5", sign("-"), number("12"), sign("."), number("5"))
	expectTokens(t, "a-b->c", name("a"), sign("-"), name("b"), sign("->"), name("c"))
	expectTokens(t, "-->", sign("-"), sign("->"))
	expectTokens(t, "===", sign("=="), sign("="))
	expectTokens(t, "=>=", sign("="), sign(">="))
	expectTokens(t, "!==", sign("!="), sign("="))
	expectTokens(t, "<->>", sign("<"), sign("->"), sign(">"))
	expectTokens(t, "- >< =", sign("-"), sign(">"), sign("<"), sign("="))
	for _, s := range allSigns() {
		expectTokens(t, s, sign(s))
		expectTokens(t, "a"+s+"1", name("a"), sign(s), number("1"))
		expectTokens(t, s+"\"\"", sign(s), quoted(""))
	}
}

// P1.1: strings.
func TestTokensStrings(t *testing.T) {
	expectTokens(t, `""`, quoted(""))
	expectTokens(t, `"a # b"c`, quoted("a # b"), name("c"))
	expectTokens(t, `"1""->"`, quoted("1"), quoted("->"))
	expectTokens(t, `a"\"1`, name("a"), quoted(`\`), number("1"))
	for b := range 256 {
		content := string([]byte{'x', byte(b), 'y'})
		switch {
		case b == '"':
			expectTokensError(t, "\n\""+content+"\"", 2, api.ErrSyntax)
		case 32 <= b && b <= 126:
			expectTokens(t, "\""+content+"\"", quoted(content))
		default:
			expectTokensError(t, "\n\""+content+"\"", 2, api.ErrSyntax)
		}
	}
	for _, s := range []string{"\"", "\"a", "a\"", "\"a\n\"", "\"a#", "\"a\" \"", "\"a\r\n"} {
		expectTokensError(t, s, 1, api.ErrSyntax)
	}
}

// P1.1: which bytes begin a token.
func TestTokensFirstByte(t *testing.T) {
	for b := range 256 {
		s := string([]byte{byte(b)})
		switch {
		case strings.Contains(" \t\r\n#", s):
			expectTokens(t, s)
		case 'a' <= b && b <= 'z' || 'A' <= b && b <= 'Z':
			expectTokens(t, s, name(s))
		case '0' <= b && b <= '9':
			expectTokens(t, s, number(s))
		case slices.Contains(allSigns(), s):
			expectTokens(t, s, sign(s))
		default:
			expectTokensError(t, s, 1, api.ErrSyntax)
			expectTokensError(t, "a\n1 "+s+" b", 2, api.ErrSyntax)
		}
	}
}

// P1.1: the bounds of one token.
func TestTokensBounds(t *testing.T) {
	for _, c := range []struct {
		longest string
		kind    int
	}{
		{strings.Repeat("x", 20), api.TokenName}, {"a" + strings.Repeat("_9", 9) + "_", api.TokenName}, {strings.Repeat("9", 9), api.TokenNumber},
	} {
		expectTokens(t, c.longest, api.Token{Kind: c.kind, Text: c.longest, Line: 1})
		expectTokensError(t, "\n"+c.longest+"1", 2, api.ErrTooLarge)
		expectTokens(t, c.longest+";", api.Token{Kind: c.kind, Text: c.longest, Line: 1}, sign(";"))
		expectTokensError(t, c.longest+"1;\n", 1, api.ErrTooLarge)
	}
	expectTokensError(t, strings.Repeat("x", 20)+"_", 1, api.ErrTooLarge)
	expectTokensError(t, "00000000001", 1, api.ErrTooLarge)
	expectTokens(t, "999999999a", number("999999999"), name("a"))
	for _, c := range []string{"s", " ", "#"} {
		longest := strings.Repeat(c, 60)
		expectTokens(t, "\""+longest+"\"", quoted(longest))
		expectTokensError(t, "\n\n\""+longest+"s\"", 3, api.ErrTooLarge)
	}
}

// P1.1: the bounds of a text.
func TestTokensTextBounds(t *testing.T) {
	expectTokens(t, strings.Repeat(" ", 19999)+"a", name("a"))
	expectTokensError(t, strings.Repeat(" ", 20000)+"a", 0, api.ErrTooLarge)
	expectTokensError(t, "@"+strings.Repeat("\n", 20000), 0, api.ErrTooLarge)
	expectTokens(t, strings.Repeat("\n", 19999)+"a", inLine(20000, name("a")))
	most := strings.Repeat(";", 4000)
	if l, line, e := token.Tokens(most + " \n# ;"); len(l) != 4000 || line != 0 || e != api.OK {
		t.Errorf("Tokens of 4000 signs: %d tokens, %d, %d", len(l), line, e)
	}
	for _, s := range []string{";", "a", "1", "\"\"", "->"} {
		expectTokensError(t, most+"\n\n"+s+"\n;", 3, api.ErrTooLarge)
	}
}

// P1.1: of several errors the first one of the text is returned, and of those of one token the one named first.
func TestTokensErrorOrder(t *testing.T) {
	long := strings.Repeat("x", 21)
	expectTokensError(t, "@\n"+long, 1, api.ErrSyntax)
	expectTokensError(t, long+"\n@", 1, api.ErrTooLarge)
	expectTokensError(t, long+"@", 1, api.ErrTooLarge)
	expectTokensError(t, "\""+strings.Repeat("s", 61)+"\"@", 1, api.ErrTooLarge)
	expectTokensError(t, "\""+strings.Repeat("s", 61), 1, api.ErrSyntax)
	expectTokensError(t, "\""+strings.Repeat("s", 61)+"\n\"", 1, api.ErrSyntax)
	expectTokensError(t, "\""+strings.Repeat("s", 61)+"\x7f\"", 1, api.ErrSyntax)
	expectTokensError(t, "\"a\tb\" "+long, 1, api.ErrSyntax)
	most := strings.Repeat(";", 4000)
	expectTokensError(t, most+"\n@", 2, api.ErrSyntax)
	expectTokensError(t, most+"\n\"a", 2, api.ErrSyntax)
	expectTokensError(t, most+"\n"+long, 2, api.ErrTooLarge)
	expectTokensError(t, most+"\n;\n@", 2, api.ErrTooLarge)
	expectTokensError(t, most[1:]+"@;;", 1, api.ErrSyntax)
}

// P1.1: what Write puts between tokens.
func TestWrite(t *testing.T) {
	expectWrite(t, nil, "")
	expectWrite(t, []api.Token{}, "")
	expectWrite(t, []api.Token{inLine(7, name("a"))}, "a")
	expectWrite(t, []api.Token{name("a"), sign("->"), quoted("x  y"), number("00")}, "a -> \"x  y\" 00")
	expectWrite(t, []api.Token{inLine(1, name("a")), inLine(9, quoted("")), inLine(9, number("1")), inLine(4, sign(";"))}, "a\n\"\" 1\n;")
	expectWrite(t, []api.Token{inLine(-3, name("a")), inLine(-3, name("b")), inLine(0, name("c"))}, "a b\nc")
	for _, s := range allSigns() {
		expectWrite(t, []api.Token{sign(s)}, s)
	}
	expectWrite(t, []api.Token{name(strings.Repeat("x", 20)), number(strings.Repeat("9", 9)), quoted(strings.Repeat("s", 60))},
		strings.Repeat("x", 20)+" "+strings.Repeat("9", 9)+" \""+strings.Repeat("s", 60)+"\"")
}

// P1.1: tokens that are none.
func TestWriteInvalid(t *testing.T) {
	for kind, texts := range map[int][]string{
		api.TokenName:   {"", "1", "_a", "a b", "a-", " a", "a ", "a\n", "a#", "\"a\"", "\xe4", strings.Repeat("x", 21)},
		api.TokenNumber: {"", "a", "-1", "1 ", " 1", "1a", "1_", "1.0", "\"1\"", strings.Repeat("9", 10)},
		api.TokenString: {"\"", "a\"b", "\"a\"", "a\nb", "\t", "\x1f", "\x7f", "\xe4", strings.Repeat("s", 61)},
		api.TokenSign:   {"", "#", "a", "1", "_", "@", "=>", "<-", "- >", "->>", "== ", "{}", "\"", "\"\"", "\"a\""},
		0:               {"", "a", "1", ";"},
		5:               {"", "a", "1", ";"},
		-1:              {"", "a", "1", ";"},
	} {
		for _, s := range texts {
			bad := api.Token{Kind: kind, Text: s, Line: 1}
			expectWriteError(t, []api.Token{bad}, api.ErrInvalid)
			expectWriteError(t, []api.Token{name("a"), bad, name("b")}, api.ErrInvalid)
		}
	}
	for kind := 1; kind <= 4; kind++ {
		for other, s := range map[int]string{1: "a", 2: "1", 4: ";"} {
			if kind != other && kind != api.TokenString {
				expectWriteError(t, []api.Token{{Kind: kind, Text: s, Line: 1}}, api.ErrInvalid)
			}
		}
	}
}

// P1.1: the bounds of Write, and the order of its errors.
func TestWriteBounds(t *testing.T) {
	expectWrite(t, slices.Repeat([]api.Token{sign(";")}, 4000), strings.TrimSuffix(strings.Repeat("; ", 4000), " "))
	expectWriteError(t, slices.Repeat([]api.Token{sign(";")}, 4001), api.ErrTooLarge)
	expectWriteError(t, make([]api.Token, 4001), api.ErrTooLarge)
	expectWriteError(t, make([]api.Token, 4000), api.ErrInvalid)
	// 952 names of 20 bytes take 19992 bytes with a separator after each.
	l := slices.Repeat([]api.Token{name(strings.Repeat("x", 20))}, 952)
	fits := append(slices.Clone(l), quoted("123456"))
	if s, e := token.Write(fits); len(s) != 20000 || e != api.OK {
		t.Errorf("Write of 20000 bytes: %d bytes, %d", len(s), e)
	}
	large := append(slices.Clone(l), quoted("1234567"))
	expectWriteError(t, large, api.ErrTooLarge)
	large[900].Line = 2
	expectWriteError(t, large, api.ErrTooLarge)
	expectWriteError(t, append(large, name("1")), api.ErrInvalid)
}

// P1.1: IsName and Number.
func TestNameAndNumber(t *testing.T) {
	for _, s := range []string{"a", "Z", "a_", "x9", strings.Repeat("x", 20)} {
		if !token.IsName(s) {
			t.Errorf("IsName(%q) is false", s)
		}
	}
	for _, s := range []string{"", "_", "_a", "9", "1a", "a-b", "a b", " a", "a ", "a\n", "a#", "\"a\"", "\xe4", "a\xe4", strings.Repeat("x", 21)} {
		if token.IsName(s) {
			t.Errorf("IsName(%q) is true", s)
		}
	}
	for s, want := range map[string]int{"0": 0, "007": 7, "10": 10, "123456789": 123456789, "000000000": 0, "999999999": 999999999} {
		if n, e := token.Number(s); n != want || e != api.OK {
			t.Errorf("Number(%q) = %d, %d, want %d", s, n, e, want)
		}
	}
	for _, s := range []string{"", "-1", "+1", "1 ", " 1", "1\n", "1a", "a", "1_", "1.0", "0x1", "\"1\"", "1#", "0000000000", "1234567890", strings.Repeat("9", 40)} {
		if n, e := token.Number(s); n != 0 || e != api.ErrSyntax {
			t.Errorf("Number(%q) = %d, %d, want 0, ErrSyntax", s, n, e)
		}
	}
}

// P1.1: Same compares kinds and texts only, of any tokens.
func TestSame(t *testing.T) {
	ab := []api.Token{name("a"), name("b")}
	for k, c := range []struct {
		a, b []api.Token
		want bool
	}{
		{nil, nil, true}, {nil, []api.Token{}, true}, {ab, ab, true}, {ab, []api.Token{inLine(3, name("a")), inLine(-1, name("b"))}, true},
		{ab, nil, false}, {nil, ab, false}, {ab, ab[:1], false}, {ab[:1], ab, false}, {ab, []api.Token{name("b"), name("a")}, false},
		{ab, []api.Token{name("a"), quoted("b")}, false}, {ab, []api.Token{name("a"), name("B")}, false},
		{[]api.Token{{Kind: 9, Text: "\n"}}, []api.Token{{Kind: 9, Text: "\n", Line: 4}}, true}, {[]api.Token{{Kind: 9}}, []api.Token{{Kind: 8}}, false},
	} {
		if token.Same(c.a, c.b) != c.want {
			t.Errorf("Same %d is %v", k, !c.want)
		}
	}
}
