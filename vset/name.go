package vset

import "isthmus/api"

// words are those of the language, which are no names.
var words = [...]string{
	"all", "and", "around", "block", "bottleneck", "connected", "count", "degree", "else",
	"false", "if", "in", "least", "max", "min", "most", "not", "or",
	"rep", "size", "some", "sum", "then", "total", "true", "value", "vertices",
}

// isName asks whether a text is a name.
func isName(text string) bool {
	if text == "" || len(text) > api.MaxName || !isLetter(text[0]) {
		return false
	}
	for i := 1; i < len(text); i++ {
		if !isLetter(text[i]) && !isDigit(text[i]) && text[i] != '_' {
			return false
		}
	}
	return !isWord(text)
}

func isWord(text string) bool {
	for _, w := range words {
		if text == w {
			return true
		}
	}
	return false
}

func isLetter(b byte) bool { return b >= 'a' && b <= 'z' }

func isDigit(b byte) bool { return b >= '0' && b <= '9' }
