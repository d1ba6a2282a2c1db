package session_test

import (
	"fmt"
	"strings"
)

// drawer draws lines that may be, most of them of a small graph.
type drawer struct{ next func(int) int }

func (d drawer) one(of ...string) string { return of[d.next(len(of))] }

// id draws a vertex's or an edge's number, below a bound but for few.
func (d drawer) id(below int) string {
	if d.next(25) == 0 {
		return d.one("-1", "1099511627776", "1099511627777", "4611686018427387903", "-4611686018427387904")
	}
	return fmt.Sprint(d.next(below))
}

func (d drawer) value() string {
	if d.next(25) == 0 {
		return d.one("1099511627776", "-1099511627776", "1099511627777", "-1099511627777", "4611686018427387903")
	}
	return fmt.Sprint(d.next(21) - 10)
}

func (d drawer) name() string {
	if d.next(20) == 0 {
		return d.one("A", "in", "7", "-", "a\tb", "\xff", "abcdefghijklm", "abcdefghijklmnopqrst")
	}
	return d.one("few", "few", "many", "x")
}

func (d drawer) passes() string {
	if d.next(3) == 0 {
		return d.one("-", "0", "5", "13", "1234", "111111111", "12340")
	}
	digits := ""
	for range 1 + d.next(8) {
		digits += fmt.Sprint(1 + d.next(4))
	}
	return digits
}

// query draws one; some are refused.
func (d drawer) query() string {
	text := d.one(
		"1 + 2 * 3", "-(U + 5) * value(@U)", "@U = @V", "size(@U)", "connected(@U, @V)", "block(@U, @V)", "bottleneck(@U, @V)", "rep(@U)", "if connected(@U, @V) then @U else rep(@V)",
		"degree(@U) / (U - V)", "U / (V - V)", "U % 0", "9223372036854775807 + U", "not block(@U, @V) or total(@U) < most(@V)", "some v in few: v = @U", "all v in many: connected(v, @U)", "count v in x: degree(v) = U",
		"sum v in vertices: value(v) * size(@U)", "max v in around(@U): degree(v)", "min v in {@U, @V}: value(v)", "count v in vertices: some w in few: connected(v, w) and v != w", "sum v in vertices: sum w in around(v): least(v) - most(w) + total(@U)",
		"all v in vertices: all w in vertices: connected(v, w) = (rep(v) = rep(w))", "sum a in vertices: sum b in vertices: sum c in vertices: sum d in few: 1",
		"1 +", "v", "1 + true", "\\", "007", "size(@U", "some v in {}: v", "Few", "")
	text = strings.ReplaceAll(strings.ReplaceAll(text, "U", fmt.Sprint(d.next(7))), "V", fmt.Sprint(d.next(7)))
	if text == "" || d.next(6) == 0 {
		text = d.one(" ", "\t", "\r", "  ") + text + d.one("", " ", "\r")
	}
	return text
}

// asking draws a line that asks alone.
func (d drawer) asking() string {
	switch d.next(10) {
	case 0:
		return "vertices"
	case 1:
		return "edges"
	case 2:
		return "forest"
	case 3:
		return "bridges"
	case 4:
		return "members " + d.name()
	case 5:
		return "around " + d.id(7)
	case 6:
		return d.one("code ", "text ") + d.query()
	case 7:
		return "mean " + d.query()
	}
	return "ask " + d.query()
}

// changing draws a line that does not ask alone.
func (d drawer) changing() string {
	switch d.next(20) {
	case 0:
		return "unvertex " + d.id(7)
	case 1, 2:
		return fmt.Sprintf("value %s %s", d.id(7), d.value())
	case 3, 4:
		return "unedge " + d.id(9)
	case 5, 6:
		return fmt.Sprintf("weight %s %s", d.id(9), d.value())
	case 7:
		return "set " + d.name()
	case 8:
		return d.one("unset ", "set ", "set ") + d.name()
	case 9, 10:
		return fmt.Sprintf("put %s %s", d.name(), d.id(7))
	case 11:
		return fmt.Sprintf("take %s %s", d.name(), d.id(7))
	case 12:
		return "fuel " + d.one("-5", "0", "3", "9", "60", "1000", "100000", "4611686018427387903")
	case 13:
		return "passes " + d.passes()
	case 14, 15:
		return fmt.Sprintf("vertex %s %s", d.id(7), d.value())
	}
	return fmt.Sprintf("edge %s %s %s %s", d.id(9), d.id(7), d.id(7), d.value())
}

// graph draws a new store's line; few are refused.
func (d drawer) graph() string {
	if d.next(5) == 0 {
		return fmt.Sprintf("graph %d %d", d.next(70), d.next(200)-4)
	}
	return fmt.Sprintf("graph %d %d", 5+d.next(3), 3+d.next(7))
}

// lines draws those of a script, up to so many.
func (d drawer) lines(most int) []string {
	var lines []string
	if d.next(8) > 0 {
		lines = append(lines, d.graph(), "set few")
		for v := range d.next(8) {
			lines = append(lines, fmt.Sprintf("vertex %d %s", v, d.value()))
		}
	}
	for range 1 + d.next(most-len(lines)) {
		switch which := d.next(60); {
		case which == 0:
			lines = append(lines, d.graph())
		case which < 25:
			lines = append(lines, d.asking())
		default:
			lines = append(lines, d.changing())
		}
	}
	return lines
}

// spoiled is a script with one byte, or one line, that is another one, one more or one less.
func (d drawer) spoiled(lines []string) string {
	text := script(lines)
	at := d.next(len(text))
	to := at + d.next(2)
	switch d.next(4) {
	case 0:
		return text[:at] + d.one(" ", "\n", "-", "0", "1", "a", "\r", "\xff", "", "  ", "+") + text[to:]
	case 1:
		i := d.next(len(lines))
		words := strings.Split(lines[i], " ")
		j := d.next(len(words))
		words[j] = d.one("", "0", "00", "-0", "1", "a", "-", "4611686018427387904", "-4611686018427387905", "abcdefghijklmnopqrstu", "123456789", "1234567890", "vertices", "ask", words[j]+" "+words[j])
		return script(lines[:i]) + strings.Join(words, " ") + "\n" + script(lines[i+1:])
	case 2:
		i := d.next(len(lines))
		return script(lines[:i]) + lines[i] + strings.Repeat(d.one(" ", "1", "a"), 2090+d.next(30)-len(lines[i])) + "\n" + script(lines[i+1:])
	}
	return text[:at]
}
