package lex

// words are those of the language, which are no names.
var words = [...]string{
	"all", "and", "around", "block", "bottleneck", "connected", "count", "degree", "else",
	"false", "if", "in", "least", "max", "min", "most", "not", "or",
	"rep", "size", "some", "sum", "then", "total", "true", "value", "vertices",
}

func isWord(text string) bool {
	for _, w := range words {
		if text == w {
			return true
		}
	}
	return false
}

func isBlank(r rune) bool { return r == 32 || r == 9 || r == 10 || r == 13 }

func isSmall(r rune) bool { return r >= 'a' && r <= 'z' }

func isLetter(r rune) bool { return isSmall(r) || r >= 'A' && r <= 'Z' }

func isDigit(r rune) bool { return r >= '0' && r <= '9' }

// isSign asks whether a sign begins with a rune.
func isSign(r rune) bool {
	switch r {
	case '(', ')', '{', '}', ',', ':', '@', '+', '-', '*', '/', '%', '=', '!', '<':
		return true
	}
	return false
}
