package session_test

import (
	"runtime"
	"strings"
	"testing"
	"time"

	"isthmus/api"
	"isthmus/session"
)

// Whatever it is given, Run ends, and nothing goes on behind it.
func TestEnds(t *testing.T) {
	before := runtime.NumGoroutine()
	d := drawer{numbers()}
	for range 300 {
		session.Run(script(d.lines(30)))
		session.Run(d.spoiled(d.lines(30)))
		noise := make([]byte, d.next(200))
		for i := range noise {
			noise[i] = byte(d.next(256))
		}
		if text, e, at := session.Run(string(noise)); text != "" || e != api.ErrSessionLine || at < 1 {
			t.Fatalf("%q: %q %d %d", noise, text, e, at)
		}
	}
	// A goroutine that has done its last may still be leaving.
	for range 200 {
		if runtime.NumGoroutine() <= before {
			return
		}
		time.Sleep(time.Millisecond)
	}
	t.Errorf("%d goroutines before, %d behind", before, runtime.NumGoroutine())
}

// Any bytes as queries: each is refused at its place, or told.
func TestAnyQuery(t *testing.T) {
	d := drawer{numbers()}
	pieces := []string{"(", ")", "{", "}", ",", ":", "@", "+", "-", "*", "/", "%", "=", "!=", "<", "<=", "1", "x", " in ", " all ", "not ", "size(", "vertices", " if ", " then ", " else ", "\x00", "\xff", "é", "A"}
	for range 200 {
		lines := []string{"graph 9 9", "vertex 1 1"}
		for len(lines) < 120 {
			text := ""
			for range 1 + d.next(12) {
				text += pieces[d.next(len(pieces))]
			}
			lines = append(lines, d.one("ask ", "mean ", "code ", "text ")+text)
		}
		for i, told := range played(t, lines...) {
			if told == "" {
				t.Fatalf("%q told nothing", lines[i])
			}
		}
	}
}

// A whole script of the longest lines, and one of the longest runs.
func TestGreat(t *testing.T) {
	query := strings.TrimSuffix(strings.Repeat("1 + ", 500), " + ")
	query += strings.Repeat(" ", 2000-len(query))
	text, e, at := session.Run(strings.Repeat("text "+query+"\n", 120))
	if e != api.OK || at != 0 || text != strings.Repeat(strings.TrimSpace(query)+"\n", 120) {
		t.Errorf("%d bytes, %d, %d", len(text), e, at)
	}
	lines := []string{"graph 64 192"}
	for i := range 64 {
		lines = append(lines, "vertex "+strings.Repeat("1", 1+i/8)+string(rune('0'+i%8))+" 1")
	}
	lines = append(lines, "passes 1324", "fuel 4611686018427387903")
	for len(lines) < 120 {
		lines = append(lines, "ask sum a in vertices: sum b in vertices: sum c in vertices: sum d in vertices: if a = b and c = d then 1 else 2")
	}
	if told := played(t, lines...); told[119] != "fault 6 1000000" {
		t.Errorf("%q", told)
	}
}
