package engine_test

import (
	"fmt"
	"testing"

	"isthmus/api"
	"isthmus/emit"
	"isthmus/engine"
	"isthmus/fold"
	"isthmus/guard"
	"isthmus/hoist"
	"isthmus/plan"
	"isthmus/share"
	"isthmus/syntax"
	"isthmus/typing"
)

func isInt(n int) api.Answer { return api.Answer{Kind: api.KindInt, N: n} }

func isBool(n int) api.Answer { return api.Answer{Kind: api.KindBool, N: n} }

func isVertex(n int) api.Answer { return api.Answer{Kind: api.KindVertex, N: n} }

func isFault(n int) api.Answer { return api.Answer{Fault: n} }

// parsed is the tree of a text that must be one.
func parsed(t *testing.T, text string) api.Expr {
	t.Helper()
	x, e, at := syntax.Parse(text)
	if e != api.OK {
		t.Fatalf("%q: %d at %d", text, e, at)
	}
	return x
}

// compiled is the query of a text that must be one.
func compiled(t *testing.T, text string, passes ...int) *engine.Query {
	t.Helper()
	q, e, at := engine.Compile(text, passes)
	if q == nil || e != api.OK || at != 0 {
		t.Fatalf("%q by %v: %d at %d", text, passes, e, at)
	}
	return q
}

// refusal is what the chapter says that a text and passes are refused with, in its order.
func refusal(text string, passes []int) (api.Errno, int) {
	x, e, at := syntax.Parse(text)
	if e != api.OK {
		return e, at
	}
	if _, e, at := typing.Check(x); e != api.OK {
		return e, at
	}
	for i, pass := range passes {
		if pass < 1 || pass > 4 || i == 8 {
			return api.ErrEnginePass, i
		}
	}
	_, e = byHand(x, passes)
	return e, 0
}

// passes are what there is to do, by their numbers.
var passes = []func(api.Plan) (api.Plan, api.Errno){api.PassFold: fold.Fold, api.PassReps: share.Reps, api.PassHoist: hoist.Hoist, api.PassShare: share.Share}

// made is all that a query tells of itself.
type made struct {
	text   string
	plan   api.Plan
	code   api.Code
	limits api.Limits
}

func (m made) String() string { return fmt.Sprintf("%q %v %v %v", m.text, m.plan, m.code, m.limits) }

// byHand makes a query of a tree out of the layers below, one behind the other.
func byHand(x api.Expr, list []int) (made, api.Errno) {
	text, e := syntax.Print(x)
	errors := []api.Errno{e}
	p, e := plan.Of(x)
	errors = append(errors, e)
	for _, pass := range list {
		p, e = passes[pass](p)
		errors = append(errors, e)
	}
	c, e := emit.Emit(p)
	errors = append(errors, e)
	limits, e, _ := guard.Verify(c)
	for _, e := range append(errors, e) {
		if e != api.OK {
			return made{}, e
		}
	}
	return made{text, p, c, limits}, api.OK
}

func toldOf(q *engine.Query) made { return made{q.Text(), q.Plan(), q.Code(), q.Limits()} }

// checked is a query, if the text and the passes are taken; whatever is answered must be what is made by hand.
func checked(t *testing.T, text string, list []int) *engine.Query {
	t.Helper()
	q, e, at := engine.Compile(text, list)
	want, place := refusal(text, list)
	if e != want || at != place || (q == nil) != (e != api.OK) {
		t.Fatalf("%q by %v: %d at %d; wanted %d at %d", text, list, e, at, want, place)
	}
	if q == nil {
		return nil
	}
	hand, _ := byHand(parsed(t, text), list)
	if got := toldOf(q); got.String() != hand.String() {
		t.Fatalf("%q by %v: %v; wanted %v", text, list, got, hand)
	}
	return q
}

// each goes through all parts, or through those that are in no cell, each with how many quantifiers are around it.
func each(n api.Node, around int, free bool, do func(api.Node, int)) {
	if n.Kind == api.ECell && free {
		return
	}
	do(n, around)
	for i, kid := range n.Kids {
		each(kid, around+truth(n.Kind == api.EQuant && i == 1), free, do)
	}
}

// isMixed asks whether calls that are the same, part by part, stand in unlike many rounds, and bind a variable: its number means unlike quantifiers then. Where PassShare keeps these in one cell, as its chapter's words say, they may be worth unlike much.
func isMixed(p api.Plan) bool {
	first, mixed := map[string]int{}, false
	each(p.Root, 0, true, func(n api.Node, around int) {
		if n.Kind != api.ECall {
			return
		}
		binds := false
		each(n, around, false, func(x api.Node, _ int) { binds = binds || x.Kind == api.EVar && x.N >= around })
		text := fmt.Sprint(n)
		if at, is := first[text]; is && at != around && binds {
			mixed = true
		}
		first[text] = around
	})
	return mixed
}

// meets asks whether PassShare comes to a mixed plan.
func meets(x api.Expr, list []int) bool {
	for i, pass := range list {
		if hand, _ := byHand(x, list[:i]); pass == api.PassShare && isMixed(hand.plan) {
			return true
		}
	}
	return false
}
