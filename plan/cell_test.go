package plan_test

import (
	"testing"

	"isthmus/api"
)

func sumOver(set, body api.Node) api.Node { return quant(api.QuantSum, set, body) }

func plus(a, b api.Node) api.Node { return of(api.EAdd, a, b) }

// What is kept is not asked again, till a quantifier on which the cell hangs goes on.
func TestL3Cells(t *testing.T) {
	s := docGraph(t)
	few, size, value := setName("few"), call(api.CallSize, vertex(1)), call(api.CallValue, variable(0))
	for _, x := range []struct {
		p    api.Plan
		want api.Answer
		many int
	}{
		{made(cell(0, integer(5)), 0), isInt(5), 2},
		{made(plus(cell(0, size), cell(0, size)), 0), isInt(8), 1 + 3 + 1},
		{made(plus(cell(0, size), cell(1, size)), 0, 0), isInt(8), 1 + 3 + 3},
		{made(cell(1, cell(0, size)), 0, 0), isInt(4), 4},
		{made(plus(cell(1, cell(0, size)), cell(0, size)), 0, 0), isInt(8), 1 + 4 + 1},
		{made(plus(cell(0, size), cell(1, cell(0, size))), 0, 0), isInt(8), 1 + 3 + 2},
		// A cell that hangs on nothing is full for good; one that hangs on a round is empty at each of its vertices.
		{made(sumOver(few, cell(0, size)), 0), isInt(12), 2 + 3 + 2},
		{made(sumOver(few, cell(0, size)), 1), isInt(12), 2 + 3*3},
		{made(sumOver(few, cell(0, value)), 1), isInt(100), 2 + 3*3},
		{made(sumOver(few, plus(cell(0, value), cell(0, value))), 1), isInt(200), 2 + 3*(1+3+1)},
		// In an inner round.
		{made(sumOver(few, sumOver(few, cell(0, value))), 1), isInt(300), 2 + 3*(2+3+2)},
		{made(sumOver(few, sumOver(few, cell(0, value))), 2), isInt(300), 2 + 3*(2+3*3)},
		{made(sumOver(few, sumOver(few, cell(0, size))), 0), isInt(36), 2 + 3*(2+3) + 2},
		{made(sumOver(few, sumOver(few, cell(0, size))), 1), isInt(36), 2 + 3*(2+3+2)},
		// Two rounds behind one another, with one cell.
		{made(plus(sumOver(few, cell(0, size)), sumOver(few, cell(0, size))), 0), isInt(24), 1 + 2*(2+3) + 2},
		{made(plus(sumOver(few, cell(0, size)), sumOver(few, cell(0, size))), 1), isInt(24), 1 + 2*(2+3*3)},
		{made(plus(sumOver(few, cell(0, value)), sumOver(all, cell(0, value))), 1), isInt(250), 1 + 2 + 2 + 8*3},
		// A cell outside of all rounds, and in one.
		{made(plus(cell(0, size), sumOver(few, cell(0, size))), 0), isInt(16), 1 + 3 + 2 + 3},
		// What is kept is a whole round.
		{made(sumOver(few, cell(0, sumOver(few, call(api.CallValue, variable(1))))), 0), isInt(300), 2 + 3 + 2 + 3*2},
		{made(sumOver(few, cell(0, sumOver(few, call(api.CallValue, variable(1))))), 1), isInt(300), 2 + 3*(1+2+3*2)},
		// Cells within a cell, of unlike depths.
		{made(sumOver(few, cell(1, plus(cell(0, size), value))), 0, 1), isInt(112), 2 + 3*(2+1+2) + 2},
		{made(sumOver(few, sumOver(few, cell(1, plus(cell(0, value), call(api.CallValue, variable(1)))))), 1, 2), isInt(600), 2 + 3*(2+3*(2+1+2)+2)},
		// In a set, which is asked ahead of the round.
		{made(sumOver(few, sumOver(of(api.ESetAround, cell(0, vertex(5))), integer(1))), 0), isInt(3), 2 + 3*(1+1+1+1) + 1},
		{made(sumOver(few, sumOver(of(api.ESetAround, cell(0, variable(0))), integer(1))), 1), isInt(9), 2 + 3*(1+1+2) + 9},
		{made(sumOver(of(api.ESetList, cell(0, vertex(5)), cell(0, vertex(5))), integer(1)), 0), isInt(1), 1 + 1 + 2 + 1 + 1},
		// No other kid is asked, whatever kind it is of.
		{made(of(api.EAnd, cell(0, boolean(1)), of(api.ENot, cell(0, boolean(1)))), 0), isBool(0), 1 + 2 + 1 + 1},
		{made(of(api.EEq, cell(0, call(api.CallRep, vertex(4))), cell(0, call(api.CallRep, vertex(4)))), 0), isBool(1), 1 + 3 + 1},
		{made(of(api.EEq, cell(0, integer(0)), cell(0, integer(0))), 0), isBool(1), 1 + 2 + 1},
		// A fault is none that is kept.
		{made(plus(cell(0, of(api.EDiv, integer(1), integer(0))), cell(0, of(api.EDiv, integer(1), integer(0)))), 0), isFault(api.FaultZero), 5},
		{made(of(api.EAnd, boolean(0), of(api.EEq, cell(0, call(api.CallValue, vertex(9))), integer(1))), 0), isBool(0), 2},
		{made(integer(3), 0, 1, 2, 3, 4), isInt(3), 1},
	} {
		wantRight(t, true, x.p)
		wantAsked(t, x.p, s, 1000, x.want, x.many)
		wantAsked(t, x.p, s, x.many, x.want, x.many)
		wantAsked(t, x.p, s, x.many-1, isFault(api.FaultFuel), x.many-1)
	}
}

// A round in the set of another one is not in its body: it has as many around it, and empties the same cells.
func TestL3CellsAndRoundsInSets(t *testing.T) {
	s := docGraph(t)
	few, size := setName("few"), call(api.CallSize, vertex(1))
	inner := of(api.EEq, quant(api.QuantSum, few, cell(0, size)), integer(12))
	root := sumOver(of(api.ESetAround, of(api.EIf, inner, vertex(5), vertex(1))), cell(0, size))
	wantAsked(t, made(root, 1), s, 1000, isInt(4), 1+1+1+1+2+3*3+1+1+3)
	wantAsked(t, made(root, 0), s, 1000, isInt(4), 1+1+1+1+2+3+2+1+1+1)
	wantAsked(t, made(sumOver(few, root), 1), s, 1000, isInt(12), 2+3*(1+1+1+1+2+3+2+1+1+1))
	wantAsked(t, made(sumOver(few, root), 2), s, 1000, isInt(12), 2+3*(1+1+1+1+2+3*3+1+1+3))
}

// Four rounds, and a cell at each depth: it is filled once for each time that its round goes on.
func TestL3CellsAtAllDepths(t *testing.T) {
	s := docGraph(t)
	few := setName("few")
	for level := range 5 {
		filled := 1
		for range level {
			filled *= 3
		}
		p := made(chain(4, cell(0, integer(1)), func(n api.Node) api.Node { return sumOver(few, n) }), level)
		wantAsked(t, p, s, 1000, isInt(81), 2+3*(2+3*(2+3*2))+81+filled)
	}
}
