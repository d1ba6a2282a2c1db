package session

import (
	"strconv"
	"strings"

	"isthmus/api"
)

// Limits of lines.
const (
	maxLine     = 2100 // bytes, without the line feed
	maxName     = 20   // bytes: more than a set's name may have, so that the store refuses it
	maxPasses   = 9    // digits: one more than the engine takes, so that it refuses the last
	leastNumber = -1 << 62
	mostNumber  = 1<<62 - 1
)

// line is one that may be: its word, and what stands behind that, in fields by its kind.
type line struct {
	word    string
	numbers []int
	name    string
	passes  []int
	query   string
}

// read is a script's lines; an error has its line.
func read(script string) ([]line, api.Errno, int) {
	// An empty script has a first line that is not ended; behind any other one's last line feed there is none.
	if strings.Count(strings.TrimSuffix(script, "\n"), "\n") >= api.MaxLines {
		return nil, api.ErrSessionLong, 0
	}
	var lines []line
	for at := 1; ; at++ {
		text, rest, ended := strings.Cut(script, "\n")
		l, ok := readLine(text)
		if !ended || !ok {
			return nil, api.ErrSessionLine, at
		}
		lines = append(lines, l)
		if rest == "" {
			return lines, api.OK, 0
		}
		script = rest
	}
}

// readLine is the line of a text, if it may be one.
func readLine(text string) (line, bool) {
	if len(text) > maxLine {
		return line{}, false
	}
	word, rest, more := strings.Cut(text, " ")
	l := line{word: word}
	switch word {
	case "vertices", "edges", "forest", "bridges":
		return l, !more
	case "ask", "mean", "code", "text":
		l.query = rest
		return l, rest != ""
	}
	parts := strings.Split(text, " ")[1:]
	return l, l.take(parts)
}

// take reads the parts behind a word that is followed by numbers, a name or passes: may they be?
func (l *line) take(parts []string) bool {
	switch l.word {
	case "unvertex", "unedge", "fuel", "around":
		return l.takeNumbers(parts, 1)
	case "graph", "vertex", "value", "weight":
		return l.takeNumbers(parts, 2)
	case "edge":
		return l.takeNumbers(parts, 4)
	case "set", "unset", "members":
		return l.takeName(parts, 0)
	case "put", "take":
		return l.takeName(parts, 1)
	case "passes":
		return l.takePasses(parts)
	}
	return false
}

func (l *line) takeNumbers(parts []string, count int) bool {
	if len(parts) != count {
		return false
	}
	for _, part := range parts {
		n, ok := numberOf(part)
		if !ok {
			return false
		}
		l.numbers = append(l.numbers, n)
	}
	return true
}

// takeName reads a name, and so many numbers behind it.
func (l *line) takeName(parts []string, count int) bool {
	if len(parts) == 0 || parts[0] == "" || len(parts[0]) > maxName {
		return false
	}
	l.name = parts[0]
	return l.takeNumbers(parts[1:], count)
}

func (l *line) takePasses(parts []string) bool {
	if len(parts) != 1 || parts[0] == "" || len(parts[0]) > maxPasses {
		return false
	}
	if parts[0] == "-" {
		return true
	}
	for _, digit := range []byte(parts[0]) {
		if digit < '0' || digit > '9' {
			return false
		}
		l.passes = append(l.passes, int(digit-'0'))
	}
	return true
}

// numberOf is the number of a text; each one may be written in one way alone, that in which it is told.
func numberOf(text string) (int, bool) {
	n, err := strconv.Atoi(text)
	if err != nil || strconv.Itoa(n) != text {
		return 0, false
	}
	return n, n >= leastNumber && n <= mostNumber
}
