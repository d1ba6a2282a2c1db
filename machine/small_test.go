package machine_test

import (
	"strings"
	"testing"

	"isthmus/api"
	"isthmus/guard"
	"isthmus/store"
)

// tally is how often code came to what: by faults, 0 for none; FaultFuel for what goes on.
type tally map[int]int

// eachCode runs all codes of up to so many of these words that the guard takes, each in some graphs.
func eachCode(t *testing.T, longest int, graphs []*store.Store, alphabet string) tally {
	t.Helper()
	c := read(alphabet)
	all := c.Words
	seen := tally{}
	words := make([]uint64, 0, longest)
	var further func()
	further = func() {
		if len(words) > 0 {
			c.Words = words
			if _, e, _ := guard.Verify(c); e == api.OK {
				for _, s := range graphs {
					seen.take(ran(t, c, s, 40))
				}
			}
		}
		if len(words) == longest {
			return
		}
		for _, w := range all {
			words = append(words, w)
			further()
			words = words[:len(words)-1]
		}
	}
	further()
	return seen
}

func (seen tally) take(p *plain) {
	if !p.ended {
		seen[api.FaultFuel]++
		return
	}
	seen[p.answer.Fault]++
}

// want holds that each of these was come to so often.
func (seen tally) want(t *testing.T, many int, faults ...int) {
	t.Helper()
	for _, fault := range faults {
		if seen[fault] < many {
			t.Errorf("so often each fault came: %v", seen)
		}
	}
}

// everyWord is one of each operation, and of each of its forms.
var everyWord = strings.Join([]string{
	"0, 7, true, false, @1, @9, Neg, Not, Add, Sub, Mul, Div, Rem, Eq 0 1, Eq 0 2, Eq 0 3, Less, Less 0 1, Best, Best 1, Some, Halt",
	"Call 1, Call 2, Call 3, Call 4, Call 5, Call 6, Call 7, Call 8, Call 9, Call 10, Var 0, All, Named few, Named nobody, Around, List, List 1, List 2, Close",
	"Jump 0, Jump 2, Jump 3, False 0, False 3, True 1, True 3, Next 0, Next 2, Next 3, Fetch 0 2, Fetch 1 3, Keep 0, Keep 1, Keep 2, Clear 0",
}, ", ")

func TestAllSmallCodes(t *testing.T) {
	seen := eachCode(t, 3, []*store.Store{docGraph(t), newStore(t)}, everyWord)
	seen.want(t, 200, 0, api.FaultVertex)
	seen = eachCode(t, 4, []*store.Store{docGraph(t)}, "0, 7, -9223372036854775808, true, false, @1, @3, Neg, Not, Add, Sub, Mul, Div, Rem, Eq 0 1, Eq 0 2, Less, Less 0 1, Call 1, Call 2, Call 3, Call 4, Call 10, Some, Halt")
	seen.want(t, 5, 0, api.FaultOverflow, api.FaultEmpty, api.FaultZero)
}

func TestAllSmallCodesOfCells(t *testing.T) {
	seen := eachCode(t, 6, []*store.Store{docGraph(t)}, "5, true, Fetch 0 2, Fetch 0 4, Fetch 1 3, Keep, Keep 1, Clear, Neg, Halt")
	seen.want(t, 500, 0)
}

func TestAllSmallCodesOfWays(t *testing.T) {
	seen := eachCode(t, 6, []*store.Store{docGraph(t)}, "true, false, Jump 1, Jump 4, True 0, True 3, False 2, False 5, Halt")
	seen.want(t, 300, 0, api.FaultFuel)
}

func TestAllSmallCodesOfRounds(t *testing.T) {
	seen := eachCode(t, 6, []*store.Store{docGraph(t), newStore(t)}, "All, Named few, Named nobody, Around, Var 0, Var 1, Close, Next 1, Next 3, Next 4, Jump 1, Halt")
	seen.want(t, 150, 0, api.FaultSet)
}
