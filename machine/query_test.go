package machine_test

import (
	"fmt"
	"testing"

	"isthmus/api"
	"isthmus/emit"
	"isthmus/fold"
	"isthmus/guard"
	"isthmus/hoist"
	"isthmus/machine"
	"isthmus/plan"
	"isthmus/share"
	"isthmus/syntax"
)

// planOf is the plan of a text that must have one.
func planOf(t *testing.T, text string) api.Plan {
	t.Helper()
	x, e, at := syntax.Parse(text)
	p, wrong := plan.Of(x)
	if e != api.OK || wrong != api.OK {
		t.Fatalf("%s: %d at %d, %d", text, e, at, wrong)
	}
	return p
}

// codeOf is the code of a text that must have one.
func codeOf(t *testing.T, text string) api.Code {
	t.Helper()
	c, e := emit.Emit(planOf(t, text))
	if e != api.OK {
		t.Fatalf("%s: %d", text, e)
	}
	return c
}

// asker draws texts of queries.
type asker struct {
	next func(int) int
}

func (a asker) one(of ...string) string { return of[a.next(len(of))] }

// of draws one of a kind, where so many quantifiers are around it, whose variables are a, b, ..
func (a asker) of(kind, deep, around int) string {
	if deep <= 0 {
		return a.leaf(kind, around)
	}
	kid := func(kind int) string { return a.of(kind, deep-1-a.next(2), around) }
	switch which := a.next(9); {
	case which == 0:
		return fmt.Sprintf("(if %s then %s else %s)", kid(api.KindBool), kid(kind), kid(kind))
	case kind == api.KindVertex || which == 1:
		return a.leaf(kind, around)
	case which < 5 && around < 4:
		return a.quantifier(kind, deep, around)
	case kind == api.KindInt && which == 5:
		return "-" + kid(kind)
	case kind == api.KindInt:
		return fmt.Sprintf("(%s %s %s)", kid(kind), a.one("+", "+", "-", "*", "/", "%"), kid(kind))
	case which == 5:
		return fmt.Sprintf("(not %s)", kid(kind))
	case which == 6:
		of := 1 + a.next(3)
		return fmt.Sprintf("(%s %s %s)", kid(of), a.one("=", "!="), kid(of))
	case which == 7:
		return fmt.Sprintf("(%s %s %s)", kid(api.KindInt), a.one("<", "<="), kid(api.KindInt))
	}
	return fmt.Sprintf("(%s %s %s)", kid(kind), a.one("and", "or"), kid(kind))
}

// leaf has no quantifier in it: of calls with quantifiers in them the layer share says less.
func (a asker) leaf(kind, around int) string {
	switch kind {
	case api.KindInt:
		if a.next(2) == 0 {
			return a.one("0", "1", "2", "3", "9223372036854775807")
		}
		return fmt.Sprintf("%s(%s)", a.one("size", "total", "least", "most", "value", "degree"), a.leaf(api.KindVertex, around))
	case api.KindBool:
		if a.next(3) == 0 {
			return a.one("true", "false")
		}
		return fmt.Sprintf("%s(%s, %s)", a.one("connected", "block"), a.leaf(api.KindVertex, around), a.leaf(api.KindVertex, around))
	}
	switch {
	case a.next(8) == 0:
		return fmt.Sprintf("rep(%s)", a.leaf(kind, around))
	case around > 0 && a.next(3) > 0:
		return string(rune('a' + a.next(around)))
	}
	return fmt.Sprintf("@%d", []int{1 + a.next(5), a.next(9)}[truth(a.next(20) == 0)])
}

func (a asker) quantifier(kind, deep, around int) string {
	which, of := a.one("all", "some"), api.KindBool
	if kind == api.KindInt {
		which = a.one("count", "sum", "min", "max")
		if which != "count" {
			of = api.KindInt
		}
	}
	set := a.one("vertices", "vertices", "few", "many", "even", "{}")
	switch a.next(20) {
	case 0, 1, 2, 3:
		set = fmt.Sprintf("around(%s)", a.of(api.KindVertex, 1, around))
	case 4, 5:
		set = fmt.Sprintf("{%s, %s}", a.leaf(api.KindVertex, around), a.of(api.KindVertex, 1, around))
	case 6:
		set = "nobody"
	}
	return fmt.Sprintf("(%s %s in %s: %s)", which, string(rune('a'+around)), set, a.of(of, deep-1-a.next(2), around+1))
}

// passed is a plan behind some passes, whichever, in whatever order.
func passed(p api.Plan, next func(int) int) api.Plan {
	for range next(6) {
		p, _ = []func(api.Plan) (api.Plan, api.Errno){fold.Fold, share.Reps, hoist.Hoist, share.Share}[next(4)](p)
	}
	return p
}

// DOC.md's P4, P5 and P6: the code of a query, whatever passes, is worth what it means; it needs no more steps than its bound, and no more room than the guard tells.
func TestP4Meaning(t *testing.T) {
	next := numbers()
	a := asker{next}
	graphs := drawnGraphs(t, 30)
	seen, exact := tally{}, 0
	for i := range 8000 {
		text := a.of(1+i%3, 2+i%5, 0)
		if len(text) > 2000 {
			continue
		}
		meant, s := planOf(t, text), graphs[next(len(graphs))]
		c, e := emit.Emit(passed(meant, next))
		if e != api.OK {
			t.Fatalf("%s: %d", text, e)
		}
		limits, _, _ := guard.Verify(c)
		want, _ := plan.Ask(meant, s, 20000)
		if want.Fault == api.FaultFuel {
			continue
		}
		seen[want.Fault]++
		m := begun(t, c, s)
		if !m.Step(1000000) || m.Answer() != want || m.Depth() > limits.Stack || want.Fault == 0 && want.Kind != limits.Kind {
			t.Fatalf("%s: %v, depth %d of %v; wanted %v", text, m.Answer(), m.Depth(), limits, want)
		}
		bound := guard.Bound(len(c.Words), limits.Rounds, len(s.Vertices()))
		if got, steps, _ := machine.Run(c, s, bound); m.Steps() > bound || bound <= 1000000 && (got != want || steps != m.Steps()) {
			t.Fatalf("%s: %v, %d steps with the bound %d; wanted %v, %d", text, got, steps, bound, want, m.Steps())
		}
		exact += truth(m.Steps() == bound)
		if i%10 == 0 {
			ran(t, c, s, 2000)
		}
	}
	seen.want(t, 5, api.FaultZero)
	seen.want(t, 50, 0, api.FaultEmpty, api.FaultOverflow, api.FaultSet, api.FaultVertex)
	if exact < 100 {
		t.Errorf("the bound was needed but %d times", exact)
	}
}

// DOC.md's examples of the whole; and the steps that some queries take.
func TestP4TheWhole(t *testing.T) {
	s := docGraph(t)
	for query, want := range map[string]api.Answer{
		"connected(@1, @4)": isBool(1), "connected(@1, @5)": isBool(0), "connected(@1, @9)": isFault(api.FaultVertex), "block(@1, @3)": isBool(1), "block(@3, @4)": isBool(0), "bottleneck(@1, @3)": isInt(7), "bottleneck(@1, @5)": isFault(api.FaultEmpty), "bottleneck(@1, @1)": isFault(api.FaultEmpty),
		"size(@2)": isInt(4), "total(@2)": isInt(100), "least(@5)": isInt(50), "rep(@4)": isVertex(1), "size(@1) + size(@2) + size(@3)": isInt(12),
		"all v in few: connected(v, @1)": isBool(0), "count v in few: connected(v, @1)": isInt(2), "max v in vertices: degree(v)": isInt(3), "min v in vertices: -degree(v)": isInt(-3), "min v in {}: value(v)": isFault(api.FaultEmpty), "sum v in nobody: 1": isFault(api.FaultSet),
		"9223372036854775807 + 1": isFault(api.FaultOverflow), "1 / 0": isFault(api.FaultZero), "true or 1 / 0 = 1": isBool(1), "false and 1 / 0 = 1": isBool(0), "if true then 1 else 1 / 0": isInt(1), "1 / 0 = 1 or true": isFault(api.FaultZero),
		"some v in around(@1): all w in around(v): v = w or bottleneck(v, w) < 8": isBool(1), "some v in around(@1): all w in around(v): bottleneck(v, w) < 8 or v = w": isFault(api.FaultEmpty), "sum v in vertices: size(@1)": isInt(20),
	} {
		if p := ran(t, codeOf(t, query), s, 1000); !p.ended || p.answer != want {
			t.Errorf("%s: %v; wanted %v", query, p.answer, want)
		}
	}
	for query, want := range map[string][2]int{"1 + 2": {4, 2}, "count v in few: v = @1": {22, 3}, "sum v in few: value(v)": {19, 2}, "max v in vertices: degree(v)": {31, 3}, "all v in {@5, @1, @5}: value(v) = 50": {14, 3}, "min v in {}: 1": {5, 2}} {
		if p := ran(t, codeOf(t, query), s, 1000); p.steps != want[0] || p.depth != want[1] {
			t.Errorf("%s: %d steps, depth %d", query, p.steps, p.depth)
		}
	}
}
