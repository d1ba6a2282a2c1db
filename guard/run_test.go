package guard_test

import (
	"testing"

	"isthmus/api"
)

// runner does the words of code as chapter 21's machine does, but that it holds kinds in place of values. Which way a word goes that hangs on values or on a graph is drawn: so each run of a machine is one of those that may be drawn, as far as it comes.
type runner struct {
	t      *testing.T
	code   api.Code
	limits api.Limits
	draw   draw
	word   int
	stack  []int
	rounds int
	cells  map[int]int // the kinds of what the full ones hold
}

// runs does words of code that was taken, some hundred in each of some runs, and holds V3 in them: nothing is popped that is not there, or is of another kind, and there is no more than the limits tell.
func runs(t *testing.T, c api.Code, limits api.Limits) {
	t.Helper()
	for i := range 4 {
		r := &runner{t: t, code: c, limits: limits, draw: draw(88172645463325252 + i), cells: map[int]int{}}
		for range 300 {
			if r.step() {
				break
			}
		}
	}
}

func (r *runner) wrong(what string) {
	r.t.Helper()
	r.t.Fatalf("%s at %d, with %v and %d rounds, of %v: %s", what, r.word, r.stack, r.rounds, r.limits, written(r.code))
}

func (r *runner) pop(kind int) {
	r.t.Helper()
	if len(r.stack) == 0 || r.stack[len(r.stack)-1] != kind {
		r.wrong("a pop of what is not there")
	}
	r.stack = r.stack[:len(r.stack)-1]
}

func (r *runner) push(kind int) { r.stack = append(r.stack, kind) }

func (r *runner) maybe() bool { return r.draw.below(2) == 0 }

// step does a word; true, if that is the last.
func (r *runner) step() bool {
	r.t.Helper()
	if r.word >= len(r.code.Words) {
		r.wrong("no word")
	}
	op, a, b := fields(r.code.Words[r.word])
	if op == api.OpHalt {
		r.pop(r.limits.Kind)
		if len(r.stack) > 0 || r.rounds > 0 {
			r.wrong("it halts too early")
		}
		return true
	}
	to := r.word + 1
	if lead := r.leads(op, a, b); lead >= 0 {
		to = lead
	} else {
		r.do(op, a, b)
	}
	if len(r.stack) > r.limits.Stack || r.rounds > r.limits.Rounds || r.rounds < 0 {
		r.wrong("too much")
	}
	r.word = to
	return false
}

// leads does what a word does that leads on, and tells where to; -1, if the next one is the one behind it.
func (r *runner) leads(op, a, b int) int {
	r.t.Helper()
	switch op {
	case api.OpJump:
		return a
	case api.OpFalse, api.OpTrue:
		r.pop(api.KindBool)
		if r.maybe() {
			return a
		}
	case api.OpNext:
		if r.rounds == 0 {
			r.wrong("no round")
		}
		if r.maybe() {
			r.rounds--
			return a
		}
	case api.OpFetch:
		if kind, full := r.cells[a]; full {
			r.push(kind)
			return b
		}
	}
	return -1
}

func (r *runner) do(op, a, b int) {
	r.t.Helper()
	switch op {
	case api.OpConst:
		r.push(b)
	case api.OpVertex:
		r.push(api.KindVertex)
	case api.OpVar:
		if a >= r.rounds {
			r.wrong("no such variable")
		}
		r.push(api.KindVertex)
	case api.OpNeg:
		r.pop(api.KindInt)
		r.push(api.KindInt)
	case api.OpNot:
		r.pop(api.KindBool)
		r.push(api.KindBool)
	case api.OpAdd, api.OpSub, api.OpMul, api.OpDiv, api.OpRem:
		r.pop(api.KindInt)
		r.pop(api.KindInt)
		r.push(api.KindInt)
	case api.OpEq:
		r.pop(b)
		r.pop(b)
		r.push(api.KindBool)
	case api.OpLess:
		r.pop(api.KindInt)
		r.pop(api.KindInt)
		r.push(api.KindBool)
	case api.OpCall:
		r.call(a)
	case api.OpBest:
		r.pop(api.KindInt)
		r.pop(api.KindBool)
		r.pop(api.KindInt)
		r.push(api.KindInt)
		r.push(api.KindBool)
	case api.OpSome:
		r.pop(api.KindBool)
	default:
		r.cellOrRound(op, a)
	}
}

func (r *runner) call(which int) {
	r.t.Helper()
	r.pop(api.KindVertex)
	if which <= api.CallBottleneck {
		r.pop(api.KindVertex)
	}
	switch {
	case which == api.CallRep:
		r.push(api.KindVertex)
	case which <= api.CallBlock:
		r.push(api.KindBool)
	default:
		r.push(api.KindInt)
	}
}

func (r *runner) cellOrRound(op, a int) {
	r.t.Helper()
	switch op {
	case api.OpKeep:
		if len(r.stack) == 0 {
			r.wrong("nothing to keep")
		}
		r.cells[a] = r.stack[len(r.stack)-1]
	case api.OpClear:
		delete(r.cells, a)
	case api.OpAll, api.OpNamed:
		r.rounds++
	case api.OpAround:
		r.pop(api.KindVertex)
		r.rounds++
	case api.OpList:
		for range a {
			r.pop(api.KindVertex)
		}
		r.rounds++
	case api.OpClose:
		r.rounds--
	}
}
