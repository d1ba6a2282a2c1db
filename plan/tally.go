package plan

import (
	"isthmus/api"
	"isthmus/reckon"
)

// tally is what a quantifier has come to, body by body.
type tally struct {
	which int
	n     int
	begun bool
}

func newTally(which int) tally {
	return tally{which: which, n: reckon.Truth(which == api.QuantAll)}
}

// take goes on by a body's worth; or there is a fault.
func (t *tally) take(n int) int {
	fault := reckon.NoFault
	switch t.which {
	case api.QuantAll, api.QuantSome:
		t.n = n
	case api.QuantCount, api.QuantSum:
		t.n, fault = reckon.Plus(t.n, n)
	case api.QuantMin:
		if !t.begun || n < t.n {
			t.n = n
		}
	case api.QuantMax:
		if !t.begun || n > t.n {
			t.n = n
		}
	}
	t.begun = true
	return fault
}

// settled asks whether no other body can change it any more.
func (t tally) settled() bool {
	return t.which == api.QuantAll && t.n == 0 || t.which == api.QuantSome && t.n == 1
}

// total is what it has come to in the end, or a fault.
func (t tally) total() (int, int) {
	if !t.begun && (t.which == api.QuantMin || t.which == api.QuantMax) {
		return 0, api.FaultEmpty
	}
	return t.n, reckon.NoFault
}
