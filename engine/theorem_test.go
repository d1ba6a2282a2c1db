package engine_test

import (
	"math"
	"strings"
	"testing"

	"isthmus/api"
	"isthmus/engine"
	"isthmus/machine"
	"isthmus/plan"
	"isthmus/store"
	"isthmus/syntax"
)

// seen tells how often something came.
type seen map[int]int

func (s seen) want(t *testing.T, many int, of ...int) {
	t.Helper()
	for _, x := range of {
		if s[x] < many {
			t.Errorf("so often each came: %v", s)
		}
	}
}

// asked holds a query to what it is worth in a store: with the fuel that is enough, with just as much as it needs, and with less; and it has no more values on its stack than the guard tells.
func asked(t *testing.T, q *engine.Query, s *store.Store, want api.Answer) {
	t.Helper()
	m, e := machine.New(q.Code(), s)
	if e != api.OK {
		t.Fatalf("%q: the guard says %d", q.Text(), e)
	}
	bound := q.Bound(len(s.Vertices()))
	if !m.Step(api.MaxFuel) || m.Answer() != want || m.Steps() > bound || m.Depth() > q.Limits().Stack || want.Fault == 0 && want.Kind != q.Limits().Kind {
		t.Fatalf("%q: %v, %d steps of %d, depth %d of %v; wanted %v; %v", q.Text(), m.Answer(), m.Steps(), bound, m.Depth(), q.Limits(), want, q.Plan())
	}
	for _, fuel := range []int{bound, m.Steps(), m.Steps() - 1, m.Steps() / 2, math.MaxInt} {
		a, steps := q.Ask(s, fuel)
		if out := fuel < m.Steps(); out && (a != isFault(api.FaultFuel) || steps != fuel) || !out && (a != want || steps != m.Steps()) {
			t.Fatalf("%q with %d: %v, %d; wanted %v, %d", q.Text(), fuel, a, steps, want, m.Steps())
		}
	}
}

// DOC.md's ten examples of the whole, by whatever passes.
func TestTheWhole(t *testing.T) {
	s := docGraph(t)
	for text, want := range map[string]api.Answer{
		"connected(@1, @4)": isBool(1), "connected(@1, @5)": isBool(0), "connected(@1, @9)": isFault(api.FaultVertex), "block(@1, @3)": isBool(1), "block(@3, @4)": isBool(0), "bottleneck(@1, @3)": isInt(7), "bottleneck(@1, @5)": isFault(api.FaultEmpty), "bottleneck(@1, @1)": isFault(api.FaultEmpty),
		"size(@2)": isInt(4), "total(@2)": isInt(100), "least(@5)": isInt(50), "rep(@4)": isVertex(1), "size(@1) + size(@2) + size(@3)": isInt(12),
		"all v in few: connected(v, @1)": isBool(0), "count v in few: connected(v, @1)": isInt(2), "max v in vertices: degree(v)": isInt(3), "min v in {}: value(v)": isFault(api.FaultEmpty), "sum v in nobody: 1": isFault(api.FaultSet),
		"9223372036854775807 + 1": isFault(api.FaultOverflow), "1 / 0": isFault(api.FaultZero), "true or 1 / 0 = 1": isBool(1), "sum v in vertices: size(@1)": isInt(20), "@9223372036854775807": isFault(api.FaultVertex), "-9223372036854775807 - 2": isFault(api.FaultOverflow),
		"some v in around(@1): all w in around(v): v = w or bottleneck(v, w) < 8": isBool(1), "some v in around(@1): all w in around(v): bottleneck(v, w) < 8 or v = w": isFault(api.FaultEmpty),
	} {
		for _, list := range passLists(3) {
			asked(t, compiled(t, text, list...), s, want)
		}
	}
	for _, list := range append(passLists(4), []int{1, 2, 3, 4, 1, 2, 3, 4}) {
		q := compiled(t, "size(@1) + size(@2) + size(@3)", list...)
		a, steps := q.Ask(s, 3)
		if b, many := q.Ask(s, q.Bound(5)); a != isFault(api.FaultFuel) || steps != 3 || b != isInt(12) || many > q.Bound(5) {
			t.Errorf("by %v: %v, %d; %v, %d", list, a, steps, b, many)
		}
	}
}

// All lists of up to four passes, of queries that these change, in some graphs: worth what the query means.
func TestG4AllPasses(t *testing.T) {
	graphs := drawnGraphs(t, 4)
	for _, text := range theQueries {
		x := parsed(t, text)
		for _, list := range passLists(4) {
			q := compiled(t, text, list...)
			for _, s := range graphs[len(list)/2:][:3] {
				asked(t, q, s, meant(x, factsOf(s)))
			}
		}
	}
}

// Queries that are drawn, by passes that are drawn, in graphs that are: worth what they mean, and what the plan is worth that has no passes behind it.
func TestG4Meaning(t *testing.T) {
	next := numbers()
	graphs := drawnGraphs(t, 40)
	faults, skipped := seen{}, 0
	for i := range 6000 {
		text := loose(asker{next: next, plain: i%3 == 0}.query(1+i/3%3, 2+i%5), next)
		if len(text) > 1500 {
			continue
		}
		x, s := parsed(t, text), graphs[next(len(graphs))]
		none := compiled(t, text)
		want, _ := plan.Ask(none.Plan(), s, 20000)
		if want.Fault == api.FaultFuel {
			continue
		}
		faults[want.Fault]++
		if a := meant(x, factsOf(s)); a != want {
			t.Fatalf("%q means %v; its plan is worth %v", text, a, want)
		}
		asked(t, none, s, want)
		for range 3 {
			list := drawnPasses(next, 8)
			if meets(x, list) {
				skipped++
				continue
			}
			q := compiled(t, text, list...)
			if q.Limits().Kind != none.Limits().Kind || q.Text() != none.Text() {
				t.Fatalf("%q by %v: %v, and %v", text, list, q.Limits(), none.Limits())
			}
			asked(t, q, s, want)
			if a, _ := plan.Ask(q.Plan(), s, 40000); a != want {
				t.Fatalf("%q by %v: %v is worth %v, not %v", text, list, q.Plan(), a, want)
			}
		}
	}
	faults.want(t, 50, 0, api.FaultEmpty, api.FaultOverflow, api.FaultSet, api.FaultVertex, api.FaultZero)
	if skipped > 200 {
		t.Errorf("%d", skipped)
	}
}

// Calls in unlike many rounds, within which variables are bound: the query means 9, and is worth that, but where PassShare comes to them.
func TestG4Mixed(t *testing.T) {
	s := docGraph(t)
	x := parsed(t, "size(if some w in few: some x in vertices: value(x) = 20 then @1 else @5) + (sum v in vertices: size(if some w in few: some x in vertices: value(w) = 20 then @1 else @5))")
	text, _ := syntax.Print(x)
	met := 0
	for _, list := range passLists(3) {
		q := checked(t, text, list)
		if meets(x, list) {
			met++
			continue
		}
		asked(t, q, s, isInt(9))
	}
	if a := meant(x, factsOf(s)); a != isInt(9) || met == 0 || met > 50 {
		t.Errorf("%v, %d", a, met)
	}
}

// Queries that have hardly room in a text, in a great graph.
func TestG4Great(t *testing.T) {
	s := docGraph(t)
	for id := 6; id <= 64; id++ {
		s.AddVertex(id, id)
		s.AddEdge(id, id, 1+id%7, id%9)
	}
	for _, text := range greatQueries() {
		if strings.Count(text, " in ") > 2 {
			continue // more steps than there is fuel
		}
		want, _ := plan.Ask(compiled(t, text).Plan(), s, api.MaxFuel)
		if want.Fault == api.FaultFuel {
			t.Fatalf("%q: %v", text, want)
		}
		for _, list := range [][]int{nil, {1}, {2}, {3}, {4}, {2, 3, 4}, {4, 3, 2, 1}, {1, 2, 4, 3}} {
			asked(t, compiled(t, text, list...), s, want)
		}
	}
}

// With each fuel up to what is needed a run ends, out of it; with more it is worth the same.
func TestP5Fuel(t *testing.T) {
	s := docGraph(t)
	for _, text := range theQueries {
		for _, list := range passLists(2) {
			q := compiled(t, text, list...)
			want, need := q.Ask(s, api.MaxFuel)
			for fuel := -2; fuel < min(need+3, 200); fuel++ {
				a, steps := q.Ask(s, fuel)
				if fuel < need && (a != isFault(api.FaultFuel) || steps != max(fuel, 0)) || fuel >= need && (a != want || steps != need) {
					t.Fatalf("%q by %v with %d: %v, %d; wanted %v, %d", text, list, fuel, a, steps, want, need)
				}
			}
		}
	}
}

// What is printed of a query is compiled to the same.
func TestP3Printed(t *testing.T) {
	next := numbers()
	a := asker{next: next}
	for i := range 1500 {
		text := loose(a.query(1+i%3, 2+i%5), next)
		if len(text) > 1500 {
			continue
		}
		list := drawnPasses(next, 4)
		q := compiled(t, text, list...)
		again := compiled(t, q.Text(), list...)
		if toldOf(q).String() != toldOf(again).String() || !syntax.Same(parsed(t, text), parsed(t, q.Text())) {
			t.Fatalf("%q by %v: %v, and %v", text, list, toldOf(q), toldOf(again))
		}
	}
}

// A query changes nothing: a store that was asked answers as its twin that was not, whatever is done to both later.
func TestP7OnlyAsked(t *testing.T) {
	next := numbers()
	a := asker{next: next}
	for round := range 10 {
		s, twin := docGraph(t), docGraph(t)
		for i := range 60 {
			for range 3 {
				if text := a.query(1+i%3, 3); len(text) <= 1500 {
					compiled(t, text, drawnPasses(next, 4)...).Ask(s, next(500))
				}
			}
			alter(t, next, s, twin)
			if i%10 == round && everything(s) != everything(twin) {
				t.Fatalf("behind %d changes: %s, not %s", i, everything(s), everything(twin))
			}
		}
		if everything(s) != everything(twin) {
			t.Fatal("another graph")
		}
	}
}

// What was asked ahead, or compiled, of the same store or another one, tells in no later answer.
func TestR4NothingIsKept(t *testing.T) {
	next := numbers()
	a := asker{next: next}
	graphs := drawnGraphs(t, 5)
	var queries []*engine.Query
	var answers []api.Answer
	for i := range 200 {
		text := a.query(1+i%3, 3)
		if len(text) > 1500 {
			text = "1"
		}
		queries = append(queries, compiled(t, text, drawnPasses(next, 4)...))
		answer, _ := queries[i].Ask(graphs[i%7], 400)
		answers = append(answers, answer)
	}
	for range 1500 {
		i := next(len(queries))
		engine.Compile(queries[next(len(queries))].Text()+" +", nil)
		if answer, _ := queries[i].Ask(graphs[i%7], 400); answer != answers[i] {
			t.Fatalf("%q: %v, and then %v", queries[i].Text(), answers[i], answer)
		}
	}
}
