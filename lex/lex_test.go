package lex_test

import (
	"slices"
	"strings"
	"testing"

	"isthmus/api"
	"isthmus/lex"
	"isthmus/vset"
)

// check holds Scan of a text against the plain one.
func check(t *testing.T, s string) {
	t.Helper()
	tokens, e, at := lex.Scan(s)
	wantTokens, wantE, wantAt := plainScan(s)
	if !slices.Equal(tokens, wantTokens) || e != wantE || at != wantAt {
		t.Fatalf("Scan(%q): %+v, %d, %d; want %+v, %d, %d", s, tokens, e, at, wantTokens, wantE, wantAt)
	}
}

func wantTokens(t *testing.T, s string, want ...api.Token) {
	t.Helper()
	check(t, s)
	tokens, e, at := lex.Scan(s)
	if !slices.Equal(tokens, want) || e != api.OK || at != 0 {
		t.Errorf("Scan(%q): %+v, %d, %d; want %+v", s, tokens, e, at, want)
	}
}

// wantRefused asks for an error, and for nothing beside it but its place.
func wantRefused(t *testing.T, s string, wantE api.Errno, wantAt int) {
	t.Helper()
	check(t, s)
	tokens, e, at := lex.Scan(s)
	if len(tokens) != 0 || e != wantE || at != wantAt {
		t.Errorf("Scan(%q): %+v, %d, %d; want %d, %d", s, tokens, e, at, wantE, wantAt)
	}
}

func wantName(t *testing.T, text string, is bool) {
	t.Helper()
	if plainName(text) != is {
		t.Fatalf("the plain rule says %t of %q", !is, text)
	}
	if lex.IsName(text) != is {
		t.Errorf("IsName(%q): %t", text, !is)
	}
}

func number(n, at int) api.Token {
	return api.Token{Kind: api.TokenNumber, N: n, At: at}
}

func name(text string, at int) api.Token {
	return api.Token{Kind: api.TokenName, Text: text, At: at}
}

func word(text string, at int) api.Token {
	return api.Token{Kind: api.TokenWord, Text: text, At: at}
}

func sign(text string, at int) api.Token {
	return api.Token{Kind: api.TokenSign, Text: text, At: at}
}

func end(at int) api.Token {
	return api.Token{Kind: api.TokenEnd, At: at}
}

func TestExamples(t *testing.T) {
	wantRefused(t, "a1 <= 07", api.ErrLexNumber, 6)
	wantTokens(t, "@5!=x", sign("@", 0), number(5, 1), sign("!=", 2), name("x", 4), end(5))
	wantRefused(t, "a!b", api.ErrLexByte, 1)
	wantRefused(t, "Abc", api.ErrLexName, 0)
	wantTokens(t, "sum_", name("sum_", 0), end(4))
	wantRefused(t, "9223372036854775808", api.ErrLexNumber, 0)
	wantTokens(t, "", end(0))
	for _, text := range []string{"x", "in_"} {
		wantName(t, text, true)
	}
	for _, text := range []string{"in", "X", "1a", "", "abcdefghijklm"} {
		wantName(t, text, false)
	}
}

func TestX1HowLong(t *testing.T) {
	for _, one := range []string{" ", "a ", "1 ", "(", "\n", "<=", "in ", "x+", "\x00", "é", "A", "07 "} {
		for _, long := range []int{1999, 2000, 2001, 2002, 4096} {
			check(t, strings.Repeat(one, long)[:long])
		}
	}
	wantTokens(t, strings.Repeat(" ", 2000), end(2000))
	wantTokens(t, strings.Repeat(" ", 1999)+"x", name("x", 1999), end(2000))
	wantRefused(t, strings.Repeat(" ", 1999)+"!", api.ErrLexByte, 1999)
	wantRefused(t, strings.Repeat("1", 2000), api.ErrLexNumber, 0)
	wantRefused(t, strings.Repeat("a", 2000), api.ErrLexName, 0)
	wantRefused(t, strings.Repeat("é", 1000), api.ErrLexByte, 0)
	for _, one := range []string{" ", "a", "1", "(", "!", "\x00", "\xff"} {
		wantRefused(t, strings.Repeat(one, 2001), api.ErrLexLong, 0)
		wantRefused(t, strings.Repeat(one, 1<<20), api.ErrLexLong, 0)
	}
	wantRefused(t, strings.Repeat("é", 1001), api.ErrLexLong, 0)
	if tokens, e, _ := lex.Scan(strings.Repeat(":", 2000)); len(tokens) != 2001 || e != api.OK {
		t.Errorf("of 2000 signs: %d tokens, %d", len(tokens), e)
	}
}

// Each byte alone, behind each kind of token, ahead of one, and between two.
func TestX1EachByte(t *testing.T) {
	begins := "abcdefghijklmnopqrstuvwxyz" + "0123456789" + "(){},:@+-*/%=<" + blankBytes
	for b := range 256 {
		x := string([]byte{byte(b)})
		_, e, at := lex.Scan(x)
		want := api.ErrLexByte
		switch {
		case strings.Contains(begins, x):
			want = api.OK
		case b >= 'A' && b <= 'Z':
			want = api.ErrLexName
		}
		if e != want || at != 0 {
			t.Errorf("Scan(%q): %d, %d; want %d", x, e, at, want)
		}
		for _, other := range []string{"", "a", "in", "A", "7", "0", "_", "!", "=", "<", "(", " ", "é", "\xc3", "\xa9"} {
			check(t, other+x)
			check(t, x+other)
			check(t, other+x+other)
			check(t, "q "+other+x+" q")
		}
	}
}

// What looks like a letter, a digit, a sign or a blank to others is none here; a place counts bytes.
func TestX1OtherRunes(t *testing.T) {
	for _, x := range []string{"é", "\u0430", "\u0661", "\uff11", "\uff21", "\u212a", "\u017f", "\u00a0", "\u2003", "\u2028", "\ufeff", "\u2260", "\u2264", "\ufffd", "\U0001f600", "\v", "\f", "\x00", "\x7f", "\x80", "\xff", "\xed\xa0\x80", "\xf8", "_", "!", "!!", "! =", ">", ">=", "==!", "&", "|", "\"", "'", "[", "]", ";", ".", "?", "~", "^", "$", "#", "\\", "`"} {
		check(t, x)
		wantName(t, x, false)
		wantName(t, "a"+x, x == "_")
		if x != "_" && x != "==!" {
			wantRefused(t, x, api.ErrLexByte, 0)
			wantRefused(t, "ab"+x, api.ErrLexByte, 2)
			wantRefused(t, "12"+x+"12", api.ErrLexByte, 2)
			wantRefused(t, " ("+x, api.ErrLexByte, 2)
		}
	}
	wantRefused(t, "==!", api.ErrLexByte, 2)
	wantRefused(t, "1_", api.ErrLexByte, 1)
	wantRefused(t, "a ééé", api.ErrLexByte, 2)
}

func TestX1WhatIsWrongFirst(t *testing.T) {
	wrong := []struct {
		text string
		e    api.Errno
	}{{"07", api.ErrLexNumber}, {"aB", api.ErrLexName}, {"abcdefghijklm", api.ErrLexName}, {"!", api.ErrLexByte}, {"é", api.ErrLexByte}, {"99999999999999999999", api.ErrLexNumber}}
	for _, first := range wrong {
		for _, second := range wrong {
			for _, ahead := range []string{"", "x ", "(", "1 ", "in\t\n", "<= "} {
				wantRefused(t, ahead+first.text+" "+second.text, first.e, len(ahead))
				wantRefused(t, ahead+first.text+"+"+second.text, first.e, len(ahead))
			}
		}
	}
}

func TestX1Numbers(t *testing.T) {
	for n := range 1200 {
		check(t, strings.Repeat("0", n%4)+textOf(number(n, 0)))
	}
	for _, may := range []int{0, 1, 9, 10, 1 << 31, 1 << 40, 1<<40 + 1, 1<<63 - 2, 1<<63 - 1} {
		text := textOf(number(may, 0))
		wantTokens(t, text, number(may, 0), end(len(text)))
		wantTokens(t, "-"+text+"x", sign("-", 0), number(may, 1), name("x", 1+len(text)), end(2+len(text)))
	}
	for _, text := range []string{"00", "01", "007", "0000000000000000000", "09223372036854775807", "9223372036854775808", "9223372036854775810", "9300000000000000000", "18446744073709551615", "18446744073709551616", "18446744073709551617", "99999999999999999999", "10000000000000000000", "340282366920938463463374607431768211456", "1" + strings.Repeat("0", 1990)} {
		wantRefused(t, text, api.ErrLexNumber, 0)
		wantRefused(t, "x = "+text+")", api.ErrLexNumber, 4)
	}
	wantTokens(t, "0 0", number(0, 0), number(0, 2), end(3))
	wantTokens(t, "1a1", number(1, 0), name("a1", 1), end(3))
	wantTokens(t, "0x10", number(0, 0), name("x10", 1), end(4))
	wantTokens(t, "1e9", number(1, 0), name("e9", 1), end(3))
	wantRefused(t, "1_000", api.ErrLexByte, 1)
}

func TestX1Names(t *testing.T) {
	for long := range 30 {
		text := strings.Repeat("z", long)
		if long >= 1 && long <= 12 {
			wantTokens(t, text, name(text, 0), end(long))
		} else if long > 12 {
			wantRefused(t, "1 "+text, api.ErrLexName, 2)
		}
		for at := range long {
			wantRefused(t, "1 "+text[:at]+"Z"+text[at+1:], api.ErrLexName, 2)
		}
	}
	wantTokens(t, "a_0123456789", name("a_0123456789", 0), end(12))
	wantRefused(t, "a_0123456789_", api.ErrLexName, 0)
	wantTokens(t, "a__ a_", name("a__", 0), name("a_", 4), end(6))
}

func TestX1Words(t *testing.T) {
	words := strings.Fields(theWords)
	if len(words) != 27 {
		t.Fatalf("there are %d words", len(words))
	}
	for _, w := range words {
		wantTokens(t, w, word(w, 0), end(len(w)))
		wantTokens(t, "("+w+")", sign("(", 0), word(w, 1), sign(")", 1+len(w)), end(2+len(w)))
		wantTokens(t, w+"_", name(w+"_", 0), end(len(w)+1))
		wantTokens(t, "x"+w, name("x"+w, 0), end(len(w)+1))
		wantRefused(t, strings.ToUpper(w), api.ErrLexName, 0)
		wantRefused(t, strings.ToUpper(w[:1])+w[1:], api.ErrLexName, 0)
		for _, other := range words {
			check(t, w+other)
			check(t, w+" "+other)
			check(t, w+"1"+other)
		}
		for long := range len(w) {
			check(t, w[:long])
			check(t, w[long:])
		}
	}
}

func TestX1Signs(t *testing.T) {
	signs := strings.Fields(theSigns)
	if len(signs) != 16 {
		t.Fatalf("there are %d signs", len(signs))
	}
	for _, x := range signs {
		wantTokens(t, x, sign(x, 0), end(len(x)))
		wantTokens(t, "a"+x+"1", name("a", 0), sign(x, 1), number(1, 1+len(x)), end(2+len(x)))
		for _, y := range signs {
			check(t, x+y)
			wantTokens(t, x+" "+y, sign(x, 0), sign(y, len(x)+1), end(len(x)+len(y)+1))
			for _, z := range signs {
				check(t, x+y+z)
			}
		}
	}
	wantTokens(t, "<==", sign("<=", 0), sign("=", 2), end(3))
	wantTokens(t, "<<=", sign("<", 0), sign("<=", 1), end(3))
	wantTokens(t, "<=<=", sign("<=", 0), sign("<=", 2), end(4))
	wantTokens(t, "=<", sign("=", 0), sign("<", 1), end(2))
	wantTokens(t, "==", sign("=", 0), sign("=", 1), end(2))
	wantTokens(t, "!==", sign("!=", 0), sign("=", 2), end(3))
	wantTokens(t, "< =", sign("<", 0), sign("=", 2), end(3))
	wantRefused(t, "<!", api.ErrLexByte, 1)
	wantRefused(t, "!!=", api.ErrLexByte, 0)
	wantRefused(t, "! =", api.ErrLexByte, 0)
	wantRefused(t, "=!", api.ErrLexByte, 1)
}

func TestX2AQuery(t *testing.T) {
	wantTokens(t, "all v in few:\n\tdegree(v) <= 10",
		word("all", 0), name("v", 4), word("in", 6), name("few", 9), sign(":", 12),
		word("degree", 15), sign("(", 21), name("v", 22), sign(")", 23), sign("<=", 25), number(10, 28), end(30))
}

func TestX3IsName(t *testing.T) {
	for b := range 256 {
		letter := b >= 'a' && b <= 'z'
		inner := letter || b >= '0' && b <= '9' || b == '_'
		x := string([]byte{byte(b)})
		wantName(t, x, letter)
		wantName(t, x+"q", letter)
		wantName(t, "q"+x, inner)
		wantName(t, "q"+x+"q", inner)
		wantName(t, "qqqqqqqqqqq"+x, inner)
		wantName(t, x+"qqqqqqqqqqq", letter)
		wantName(t, "qqqqqqqqqqqq"+x, false)
	}
	for _, w := range strings.Fields(theWords) {
		wantName(t, w, false)
		wantName(t, w+"_", true)
		wantName(t, w+"0", true)
		wantName(t, "x"+w, true)
		wantName(t, w+" ", false)
		wantName(t, " "+w, false)
		wantName(t, strings.ToUpper(w), false)
	}
	for long := range 40 {
		wantName(t, strings.Repeat("a", long), long >= 1 && long <= 12)
	}
	for _, long := range []int{1 << 8, 1<<8 + 5, 2000, 2001, 1 << 16, 1<<16 + 5, 1 << 20} {
		wantName(t, strings.Repeat("a", long), false)
	}
	wantName(t, "aaaaaaaaaaé", false)
	wantName(t, "aaaaaaaaaaaé", false)
}

// A text is a name, just if it is one name token from end to end, and just if a set may have it.
func TestX3NamesAreThoseOfTokensAndSets(t *testing.T) {
	next := numbers()
	const few = "aazin_09 B"
	for range 20000 {
		var text []byte
		for range next(14) {
			text = append(text, few[next(len(few))])
		}
		s := string(text)
		tokens, e, _ := lex.Scan(s)
		alone := e == api.OK && len(tokens) == 2 && tokens[0] == name(s, 0)
		if is := lex.IsName(s); is != alone || is != plainName(s) || is != (vset.NewFamily().Add(s) == api.OK) {
			t.Fatalf("IsName(%q): %t; alone a token: %t", s, is, alone)
		}
	}
}

// What came out is its owner's: no other answer is changed by what is done to it.
func TestTokensAreNewMemory(t *testing.T) {
	const s = "a + 1 <= value(@2)"
	tokens, _, _ := lex.Scan(s)
	others, _, _ := lex.Scan(s)
	for i := range tokens {
		tokens[i] = api.Token{Kind: 9, N: 9, Text: "x", At: 9}
	}
	_ = append(tokens, api.Token{Kind: 9})
	_ = append(tokens[:2], api.Token{Kind: 9})
	want, _, _ := plainScan(s)
	if again, _, _ := lex.Scan(s); !slices.Equal(others, want) || !slices.Equal(again, want) {
		t.Errorf("%+v and %+v, want %+v", others, again, want)
	}
}

// All texts of up to five of these.
func TestAllShortTexts(t *testing.T) {
	few := []string{"a", "B", "0", "7", "_", " ", "!", "=", "<", "-", "é", "in"}
	texts := []string{""}
	for range 5 {
		var longer []string
		for _, text := range texts {
			check(t, text)
			for _, x := range few {
				longer = append(longer, text+x)
			}
		}
		texts = longer
	}
	for _, text := range texts {
		check(t, text)
	}
}

// Texts of whatever bytes, and of bytes of which many tokens are.
func TestLongTextsBesideThePlainScan(t *testing.T) {
	next := numbers()
	const some = "aabcinrest_0123456789  \t\n\r(){},:@+-*/%=<"
	for range 4000 {
		var text []byte
		for range next(2010) {
			text = append(text, some[next(len(some))])
		}
		if next(2) == 0 && len(text) > 0 {
			text[next(len(text))] = byte(next(256))
		}
		check(t, string(text))
		for i := range min(len(text), 20) {
			text[i] = byte(next(256))
		}
		check(t, string(text[:min(len(text), 20)]))
	}
}
