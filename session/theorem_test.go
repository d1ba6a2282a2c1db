package session_test

import (
	"strings"
	"sync"
	"testing"

	"isthmus/api"
	"isthmus/session"
)

// Whatever lines: the transcript is that of the plain session; so is what a spoiled script is refused with.
func TestY1Drawn(t *testing.T) {
	d := drawer{numbers()}
	told := map[string]int{}
	for range 600 {
		lines := d.lines(120)
		text, e, at := session.Run(script(lines))
		want, wantE, wantAt := plainRun(script(lines))
		if text != want || e != wantE || at != wantAt || e != api.OK {
			t.Fatalf("%q\n%q %d %d\n%q %d %d", lines, text, e, at, want, wantE, wantAt)
		}
		for l := range strings.SplitSeq(text, "\n") {
			told[strings.Join(append(strings.Split(l, " "), "")[:2], " ")]++
		}
	}
	for _, want := range []string{"ok ", "nothing ", "error 1", "error 90", "error 91", "error 93", "error 100", "error 101", "error 102", "error 103", "error 104", "error 110", "error 111", "error 112", "error 120", "error 130", "error 131", "error 220", "fault 1", "fault 2", "fault 3", "fault 4", "fault 5", "fault 6", "vertex 1"} {
		if told[want] < 5 {
			t.Errorf("%q was told %d times", want, told[want])
		}
	}
}

func TestY1Spoiled(t *testing.T) {
	d := drawer{numbers()}
	came := map[api.Errno]int{}
	for range 3000 {
		lines := d.lines(40)
		if d.next(5) == 0 {
			lines = strings.Split(strings.Repeat("edges ", 118+d.next(6))+"edges", " ")
		}
		script := d.spoiled(lines)
		text, e, at := session.Run(script)
		want, wantE, wantAt := plainRun(script)
		if text != want || e != wantE || at != wantAt {
			t.Fatalf("%q\n%q %d %d\n%q %d %d", script, text, e, at, want, wantE, wantAt)
		}
		came[e]++
	}
	if came[api.OK] < 100 || came[api.ErrSessionLine] < 100 || came[api.ErrSessionLong] < 100 {
		t.Error(came)
	}
}

// A script's beginning has the beginning of its transcript.
func TestY2Beginnings(t *testing.T) {
	d := drawer{numbers()}
	for range 40 {
		lines := d.lines(120)
		told := played(t, lines...)
		for cut := 1; cut < len(lines); cut++ {
			if text, e, at := session.Run(script(lines[:cut])); e != api.OK || at != 0 || text != script(told[:cut]) {
				t.Fatalf("%q: %q, wanted %q", lines[:cut], text, told[:cut])
			}
		}
	}
}

// Each time the same, also when many are played at one time.
func TestY2EachTime(t *testing.T) {
	d := drawer{numbers()}
	for range 20 {
		text := script(d.lines(120))
		first, _, _ := session.Run(text)
		var all sync.WaitGroup
		for range 8 {
			all.Go(func() {
				for range 3 {
					if again, e, at := session.Run(text); again != first || e != api.OK || at != 0 {
						t.Errorf("%q: %q and %q", text, first, again)
					}
				}
			})
		}
		all.Wait()
	}
}

// asksAlone tells lines that change nothing by their words.
func asksAlone(l string) bool {
	return strings.Contains(" ask mean code text vertices edges forest bridges members around ", " "+strings.Split(l, " ")[0]+" ")
}

// Lines that ask alone may be left out, all or some, or put in: the others tell the same.
func TestY2LeftOut(t *testing.T) {
	d := drawer{numbers()}
	for range 300 {
		lines := d.lines(60)
		told := played(t, lines...)
		var rest, want []string // without what is left out
		var more []string       // and with what is put in
		var at []int            // where in more those of rest stand
		all := d.next(2) == 0
		for i, l := range lines {
			if asksAlone(l) && (all || d.next(2) == 0) {
				continue
			}
			if d.next(2) == 0 {
				more = append(more, d.asking())
			}
			at = append(at, len(more))
			rest, more, want = append(rest, l), append(more, l), append(want, told[i])
		}
		if len(rest) == 0 {
			continue
		}
		same(t, rest, played(t, rest...), want)
		var got []string
		for i, l := range played(t, more...) {
			if len(at) > len(got) && at[len(got)] == i {
				got = append(got, l)
			}
		}
		same(t, more, got, want)
	}
}

func same(t *testing.T, lines, got, want []string) {
	t.Helper()
	if script(got) != script(want) {
		t.Fatalf("%q:\n%q\n%q", lines, got, want)
	}
}

// With fuel enough ask and mean are worth the same, by whatever passes, and a run ends within the bound that code tells.
func TestY2Worth(t *testing.T) {
	d := drawer{numbers()}
	worths := 0
	for range 150 {
		lines := d.lines(60)
		lines = append(lines, "fuel 1000000")
		begin := len(lines)
		for range 10 {
			query, passes := d.query(), d.passes()
			lines = append(lines, "passes "+passes, "code "+query, "ask "+query, "mean "+query)
		}
		told := played(t, lines...)
		for i := begin; i < len(lines); i += 4 {
			code, ask, mean := told[i+1], told[i+2], told[i+3]
			if ask == "nothing" || strings.HasPrefix(ask, "error") {
				continue
			}
			worth, steps := cutLast(ask)
			meant, _ := cutLast(mean)
			bound := strings.Split(code, " ")[7]
			if worth != meant || len(steps) > len(bound) || len(steps) == len(bound) && steps > bound {
				t.Fatalf("%q: %q: %s; %s; %s", lines, lines[i+2], ask, mean, code)
			}
			worths++
		}
	}
	if worths < 500 {
		t.Error(worths)
	}
}

func cutLast(text string) (string, string) {
	at := strings.LastIndex(text, " ")
	return text[:at], text[at+1:]
}
