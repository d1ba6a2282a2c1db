package lex_test

import (
	"slices"
	"strings"
	"testing"

	"isthmus/api"
	"isthmus/lex"
)

// unplaced are tokens without their places.
func unplaced(tokens []api.Token) []api.Token {
	var all []api.Token
	for _, x := range tokens {
		x.At = 0
		all = append(all, x)
	}
	return all
}

// runs asks whether two tokens would run into one, if nothing stood between them.
func runs(a, b api.Token) bool {
	if a.Kind == api.TokenEnd || b.Kind == api.TokenEnd {
		return false
	}
	both := textOf(a) + textOf(b)
	return wordForm.FindString(both) == both || numberForm.FindString(both) == both || signForm.FindString(both) == both
}

// drawn is a list of tokens that may be, without the end.
func drawn(next func(int) int, many int) []api.Token {
	words, signs := strings.Fields(theWords), strings.Fields(theSigns)
	names := []string{"a", "in_", "x1", "e9", "a_0123456789", "allin", "z"}
	figures := []int{0, 1, 7, 10, 1 << 40, 1<<63 - 1}
	var tokens []api.Token
	for range many {
		switch next(5) {
		case 0:
			tokens = append(tokens, word(words[next(len(words))], 0))
		case 1:
			tokens = append(tokens, name(names[next(len(names))], 0))
		case 2:
			tokens = append(tokens, number(figures[next(len(figures))], 0))
		default:
			tokens = append(tokens, sign(signs[next(len(signs))], 0))
		}
	}
	return tokens
}

// written is a text of tokens, with blanks among them as a function says of each gap: whether there must be one, and how many there are.
func written(tokens []api.Token, gap func(must bool) string) string {
	var text strings.Builder
	text.WriteString(gap(false))
	for i, x := range tokens {
		text.WriteString(textOf(x))
		text.WriteString(gap(i+1 < len(tokens) && runs(x, tokens[i+1])))
	}
	return text.String()
}

// fewest lays a blank only where there must be one.
func fewest(must bool) string {
	if must {
		return " "
	}
	return ""
}

// someBlanks lays up to three of whatever blanks.
func someBlanks(next func(int) int) func(bool) string {
	return func(must bool) string {
		many := next(4)
		if must {
			many = max(many, 1)
		}
		var all []byte
		for range many {
			all = append(all, blankBytes[next(len(blankBytes))])
		}
		return string(all)
	}
}

func TestX4BlanksMovePlacesAlone(t *testing.T) {
	next := numbers()
	for range 3000 {
		tokens := drawn(next, next(60))
		want := append(slices.Clone(tokens), end(0))
		for _, s := range []string{written(tokens, fewest), written(tokens, someBlanks(next)), written(tokens, func(bool) string { return "\r\n" })} {
			if len(s) > api.MaxSource {
				continue
			}
			got, e, at := lex.Scan(s)
			if e != api.OK || at != 0 || !slices.Equal(unplaced(got), want) {
				t.Fatalf("Scan(%q): %+v, %d, %d; want %+v", s, got, e, at, want)
			}
		}
	}
}

// Where two run into one, the blank between them counts.
func TestX4WhatRunsIntoOne(t *testing.T) {
	for _, two := range [][2]string{{"a", "b"}, {"a", "1"}, {"in", "in"}, {"al", "l"}, {"1", "2"}, {"<", "="}} {
		joined, e, _ := lex.Scan(two[0] + two[1])
		if e != api.OK || len(joined) != 2 {
			t.Errorf("%q: %+v, %d", two, joined, e)
		}
		apart, e, _ := lex.Scan(two[0] + "\t" + two[1])
		if e != api.OK || len(apart) != 3 {
			t.Errorf("%q: %+v, %d", two, apart, e)
		}
	}
	for _, two := range [][2]string{{"1", "a"}, {"0", "in"}, {"a", "("}, {"(", "a"}, {")", ")"}, {"-", "-"}, {"-", "1"}, {"@", "1"}, {"=", "="}, {"<=", "="}, {"=", "<"}} {
		joined, e, _ := lex.Scan(two[0] + two[1])
		apart, also, _ := lex.Scan(two[0] + " " + two[1])
		if e != api.OK || also != api.OK || len(joined) != 3 || !slices.Equal(unplaced(joined), unplaced(apart)) {
			t.Errorf("%q: %+v, %d; %+v, %d", two, joined, e, apart, also)
		}
	}
}

// wantMadeOfTokens asks for each token's text at its place, and for blanks everywhere else.
func wantMadeOfTokens(t *testing.T, s string, tokens []api.Token) {
	t.Helper()
	behind := 0
	for _, x := range tokens {
		if x.At < behind || strings.Trim(s[behind:x.At], blankBytes) != "" {
			t.Fatalf("%q: ahead of %+v there is more than blanks", s, x)
		}
		text := textOf(x)
		if !strings.HasPrefix(s[x.At:], text) || text == "" != (x.Kind == api.TokenEnd) {
			t.Fatalf("%q: at %d there is no %q", s, x.At, text)
		}
		behind = x.At + len(text)
	}
	if behind != len(s) || tokens[len(tokens)-1] != end(len(s)) {
		t.Fatalf("%q: the tokens end at %d: %+v", s, behind, tokens)
	}
}

func TestX4ATextIsItsTokensAndBlanks(t *testing.T) {
	next := numbers()
	const some = "abin_017 \n(:<=!@-"
	taken := 0
	for range 200000 {
		var text []byte
		for range next(9) {
			text = append(text, some[next(len(some))])
		}
		s := string(text)
		tokens, e, at := lex.Scan(s)
		if e == api.OK {
			taken++
			wantMadeOfTokens(t, s, tokens)
			continue
		}
		if len(tokens) != 0 || at < 0 || at >= len(s) {
			t.Fatalf("Scan(%q): %+v, %d, %d", s, tokens, e, at)
		}
		ahead, e, _ := lex.Scan(s[:at])
		if e != api.OK {
			t.Fatalf("%q is refused at %d, but what stands ahead is refused too: %d", s, at, e)
		}
		wantMadeOfTokens(t, s[:at], ahead)
	}
	if taken < 20000 {
		t.Errorf("only %d texts were taken", taken)
	}
}
