package session_test

import (
	"strings"
	"testing"

	"isthmus/api"
	"isthmus/session"
)

// numbers draws: a row of numbers that is the same each time.
func numbers() func(below int) int {
	x := uint64(88172645463325252)
	return func(below int) int {
		x ^= x << 13
		x ^= x >> 7
		x ^= x << 17
		return int(x >> 11 % uint64(below))
	}
}

// script is a text of lines, each ended.
func script(lines []string) string {
	text := ""
	for _, l := range lines {
		text += l + "\n"
	}
	return text
}

// played is what each of some lines tells, all of which may be.
func played(t *testing.T, lines ...string) []string {
	t.Helper()
	text, e, at := session.Run(script(lines))
	told := strings.Split(text, "\n")
	if e != api.OK || at != 0 || len(told) != len(lines)+1 || told[len(lines)] != "" {
		t.Fatalf("%q: %q, %d, %d", lines, text, e, at)
	}
	return told[:len(lines)]
}

// follow plays what stands ahead of each arrow: it must tell what stands behind it, where * is any one word.
func follow(t *testing.T, text string) {
	t.Helper()
	var lines, want []string
	for l := range strings.SplitSeq(text, "\n") {
		if l == "" {
			continue
		}
		ahead, behind, _ := strings.Cut(l, " -> ")
		lines, want = append(lines, ahead), append(want, behind)
	}
	for i, got := range played(t, lines...) {
		if !fits(got, want[i]) {
			t.Errorf("%s: told %q, wanted %q", lines[i], got, want[i])
		}
	}
}

func fits(got, want string) bool {
	words, wanted := strings.Split(got, " "), strings.Split(want, " ")
	if len(words) != len(wanted) {
		return false
	}
	for i, word := range wanted {
		if word != "*" && word != words[i] {
			return false
		}
	}
	return true
}

// refuses holds a script to the line that it is refused with.
func refuses(t *testing.T, text string, want api.Errno, line int) {
	t.Helper()
	if told, e, at := session.Run(text); told != "" || e != want || at != line {
		t.Errorf("%.100q (%d bytes): %q, %d, %d; wanted %d, %d", text, len(text), told, e, at, want, line)
	}
}
