package lexer

import (
	"slices"
	"strings"
	"testing"
)

func name(s string) Token    { return Token{Kind: Name, S: s} }
func whole(n int) Token      { return Token{Kind: Number, N: n} }
func quote(s string) Token   { return Token{Kind: Text, S: s} }
func just(kind Kind) Token   { return Token{Kind: kind} }
func all(t ...Token) []Token { return t }

func TestCut(t *testing.T) {
	for _, c := range []struct {
		text string
		want []Token
	}{
		{"", nil},
		{" \t\n", nil},
		{"a", all(name("a"))},
		{"\n\ta \n", all(name("a"))},
		{"_a1 A1_ _", all(name("_a1"), name("A1_"), name("_"))},
		{"tenletters ABCDEFGHI0", all(name("tenletters"), name("ABCDEFGHI0"))},
		{"1a", all(whole(1), name("a"))},
		{"1AND 2", all(whole(1), just(KeyAnd), whole(2))},
		{"0 007 42", all(whole(0), whole(7), whole(42))},
		{"9223372036854775807", all(whole(9223372036854775807))},
		{strings.Repeat("0", 500) + "9223372036854775807", all(whole(9223372036854775807))},
		{"1.5", all(whole(1), just(Dot), whole(5))},
		{"''", all(quote(""))},
		{"''''", all(quote("'"))},
		{"'a''b' 'c'", all(quote("a'b"), quote("c"))},
		{"'a' 'b'", all(quote("a"), quote("b"))},
		{"'\x00\r\n\xff--;'", all(quote("\x00\r\n\xff--;"))},
		{"'" + strings.Repeat("x", 40) + "'", all(quote(strings.Repeat("x", 40)))},
		{"'" + strings.Repeat("''", 40) + "'", all(quote(strings.Repeat("'", 40)))},
		{"< > <> <= >= =", all(just(Less), just(Greater), just(Unequal), just(LessEqual), just(GreaterEqual), just(Equal))},
		{"<><=>==", all(just(Unequal), just(LessEqual), just(GreaterEqual), just(Equal))},
		{"<<>>", all(just(Less), just(Unequal), just(Greater))},
		{"(),.;+-*/%", all(just(Open), just(Close), just(Comma), just(Dot), just(Semicolon), just(Plus), just(Minus), just(Star), just(Slash), just(Percent))},
		{"--a", all(just(Minus), just(Minus), name("a"))},
		{"createx xcreate _create", all(name("createx"), name("xcreate"), name("_create"))},
	} {
		got, ok := Cut(c.text)
		if !ok || !slices.Equal(got, c.want) {
			t.Errorf("Cut(%q) = %v, %t, want %v", c.text, got, ok, c.want)
		}
	}
}

// TestKeywords: the words of the document, in its order, in letters of any size.
func TestKeywords(t *testing.T) {
	const words = "CREATE TABLE INSERT INTO VALUES DELETE FROM WHERE UPDATE SET SELECT DISTINCT AS LEFT JOIN ON ORDER BY DESC LIMIT OFFSET AND OR NOT IS NULL TRUE FALSE INT TEXT BOOL"
	for i, word := range strings.Fields(words) {
		mixed := strings.ToLower(word[:1]) + word[1:2] + strings.ToLower(word[2:])
		for _, written := range []string{word, strings.ToLower(word), mixed} {
			got, ok := Cut(written)
			if !ok || !slices.Equal(got, all(just(KeyCreate+Kind(i)))) {
				t.Errorf("Cut(%q) = %v, %t", written, got, ok)
			}
		}
	}
	if got, ok := Cut("asc inner primary"); !ok || !slices.Equal(got, all(name("asc"), name("inner"), name("primary"))) {
		t.Errorf("words that are no keywords: %v, %t", got, ok)
	}
}

func TestNoTokens(t *testing.T) {
	for _, text := range []string{
		"elevenbytes", "a elevenbytes a", strings.Repeat("x", 600),
		"9223372036854775808", "99999999999999999999", "1" + strings.Repeat("0", 500),
		"'", "'a", "'a''", "'''", "a '", "'" + strings.Repeat("x", 41) + "'", "'" + strings.Repeat("''", 41) + "'",
	} {
		if got, ok := Cut(text); ok || got != nil {
			t.Errorf("Cut(%q) = %v, %t, want none", text, got, ok)
		}
	}
}

// TestBytes: which bytes may stand outside of a text.
func TestBytes(t *testing.T) {
	const allowed = " \t\n_(),.;=<>+-*/%"
	for b := range 256 {
		c := string([]byte{byte(b)})
		letter := 'a' <= b && b <= 'z' || 'A' <= b && b <= 'Z' || '0' <= b && b <= '9'
		if _, ok := Cut("1 " + c + " 1"); ok != (letter || strings.Contains(allowed, c)) {
			t.Errorf("byte %q outside of a text: %t", c, ok)
		}
		if got, ok := Cut("'" + c + c + "'"); b != '\'' && (!ok || got[0].S != c+c) {
			t.Errorf("byte %q in a text: %v, %t", c, got, ok)
		}
	}
}
