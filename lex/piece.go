package lex

import (
	"strconv"

	"isthmus/api"
)

// The kinds of pieces, as the first rune of one says.
const (
	blanks = iota
	word
	number
	sign
	nothing // no token begins with it
)

// piece is what belongs together in a text, whether or not it may be there.
type piece struct {
	kind int
	text string
	at   int
}

// cut are all pieces of a text, the blanks too, in their order.
func cut(s string) []piece {
	var pieces []piece
	open := piece{kind: blanks}
	for at, r := range s {
		open.text = s[open.at:at]
		if open.takes(r) {
			continue
		}
		pieces = append(pieces, open)
		open = piece{kind: kindOf(r), at: at}
	}
	open.text = s[open.at:]
	return append(pieces, open)
}

// kindOf is the kind of the piece that begins with a rune.
func kindOf(r rune) int {
	switch {
	case isBlank(r):
		return blanks
	case isLetter(r):
		return word
	case isDigit(r):
		return number
	case isSign(r):
		return sign
	}
	return nothing
}

// takes asks whether a piece goes on with a rune.
func (p piece) takes(r rune) bool {
	switch p.kind {
	case blanks:
		return isBlank(r)
	case word:
		return isLetter(r) || isDigit(r) || r == '_'
	case number:
		return isDigit(r)
	case sign:
		return r == '=' && (p.text == "!" || p.text == "<")
	}
	return false
}

// token is the one that a piece is, or why it is none.
func (p piece) token() (api.Token, api.Errno) {
	switch p.kind {
	case word:
		return p.wordToken()
	case number:
		return p.numberToken()
	case sign:
		return p.signToken()
	}
	return api.Token{}, api.ErrLexByte
}

func (p piece) wordToken() (api.Token, api.Errno) {
	if isWord(p.text) {
		return api.Token{Kind: api.TokenWord, Text: p.text, At: p.at}, api.OK
	}
	if IsName(p.text) {
		return api.Token{Kind: api.TokenName, Text: p.text, At: p.at}, api.OK
	}
	return api.Token{}, api.ErrLexName
}

func (p piece) numberToken() (api.Token, api.Errno) {
	n, err := strconv.Atoi(p.text)
	if err != nil || p.text[0] == '0' && p.text != "0" {
		return api.Token{}, api.ErrLexNumber
	}
	return api.Token{Kind: api.TokenNumber, N: n, At: p.at}, api.OK
}

func (p piece) signToken() (api.Token, api.Errno) {
	if p.text == "!" { // only begins one
		return api.Token{}, api.ErrLexByte
	}
	return api.Token{Kind: api.TokenSign, Text: p.text, At: p.at}, api.OK
}
