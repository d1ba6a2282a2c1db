package lex_test

import (
	"math/big"
	"regexp"
	"slices"
	"strconv"
	"strings"

	"isthmus/api"
)

// theWords are those of the language, as the chapter lists them.
const theWords = "all and around block bottleneck connected count degree else false if in least max min most not or rep size some sum then total true value vertices"

// theSigns are all that there are.
const theSigns = "( ) { } , : @ + - * / % = != < <="

// blankBytes are all that there are.
const blankBytes = " \t\n\r"

// The forms that the chapter gives, each at the front of what is left of a text.
var (
	blankForm  = regexp.MustCompile(`\A[ \t\n\r]+`)
	wordForm   = regexp.MustCompile(`\A[a-zA-Z][a-zA-Z0-9_]*`)
	numberForm = regexp.MustCompile(`\A[0-9]+`)
	signForm   = regexp.MustCompile(`\A(!=|<=|[(){},:@+\-*/%=<])`)
	nameForm   = regexp.MustCompile(`\A[a-z][a-z0-9_]{0,11}\z`)
)

func plainWord(text string) bool {
	return slices.Contains(strings.Fields(theWords), text)
}

func plainName(text string) bool {
	return nameForm.MatchString(text) && !plainWord(text)
}

// plainNumber reads a number token without a bound, and then asks whether it may be.
func plainNumber(text string) (int, bool) {
	n, is := new(big.Int).SetString(text, 10)
	if !is || !n.IsInt64() || n.String() != text {
		return 0, false
	}
	return int(n.Int64()), true
}

// plainScan is Scan by the words of the chapter: what is left of a text is held against one form after the other.
func plainScan(s string) ([]api.Token, api.Errno, int) {
	if len(s) > 2000 {
		return nil, api.ErrLexLong, 0
	}
	var tokens []api.Token
	at := 0
	for at < len(s) {
		rest := s[at:]
		t := api.Token{At: at}
		if found := blankForm.FindString(rest); found != "" {
			at += len(found)
			continue
		} else if found := wordForm.FindString(rest); found != "" {
			t.Kind, t.Text = api.TokenName, found
			if plainWord(found) {
				t.Kind = api.TokenWord
			} else if !plainName(found) {
				return nil, api.ErrLexName, at
			}
			at += len(found)
		} else if found := numberForm.FindString(rest); found != "" {
			n, may := plainNumber(found)
			if !may {
				return nil, api.ErrLexNumber, at
			}
			t.Kind, t.N = api.TokenNumber, n
			at += len(found)
		} else if found := signForm.FindString(rest); found != "" {
			t.Kind, t.Text = api.TokenSign, found
			at += len(found)
		} else {
			return nil, api.ErrLexByte, at
		}
		tokens = append(tokens, t)
	}
	return append(tokens, api.Token{Kind: api.TokenEnd, At: at}), api.OK, 0
}

// textOf is how a token is written: of the end nothing.
func textOf(t api.Token) string {
	if t.Kind == api.TokenNumber {
		return strconv.Itoa(t.N)
	}
	return t.Text
}

// numbers are drawn one behind the other, always the same ones.
func numbers() func(below int) int {
	x := uint64(88172645463325252)
	return func(below int) int {
		x ^= x << 13
		x ^= x >> 7
		x ^= x << 17
		return int(x % uint64(below))
	}
}
