package plan_test

import (
	"strconv"
	"testing"

	"isthmus/api"
	"isthmus/plan"
	"isthmus/store"
	"isthmus/typing"
)

// Each plan that Of gives is right, and of the kind of its query.
func TestL4PlansOfQueries(t *testing.T) {
	next := numbers()
	d := drawing(0, 0, 3)
	many := 0
	for i := range 8000 {
		root := d.plan(1+i%3, 6).Root
		if !plainRight(made(root)) {
			continue
		}
		e := named(root, nil, func(around int) string { return "v" + strconv.Itoa(next(around+1)) })
		kind, wrong, _ := typing.Check(e)
		p, err := plan.Of(e)
		if (err == api.OK) != (wrong == api.OK) {
			t.Fatalf("Check: %d, Of: %d", wrong, err)
		}
		if err != api.OK {
			continue
		}
		many++
		if !checked(t, p) || plan.Kind(p) != kind {
			t.Fatalf("of kind %d, not %d: %s", plan.Kind(p), kind, told(p))
		}
	}
	if many < 3000 {
		t.Errorf("%d", many)
	}
}

// With a greater budget the answer is the same, unless it was FaultFuel; and what is no fault is of the kind that Kind tells.
func TestL4Budgets(t *testing.T) {
	next := numbers()
	d := drawing(20, 3, 0)
	for i := range 1200 {
		p, s := d.plan(1+i%3, 5), drawnGraph(t, next)
		last, need := plan.Ask(p, s, 1000000)
		if last.Fault == api.FaultFuel {
			continue
		}
		if last.Fault == 0 && last.Kind != plan.Kind(p) || last.Fault != 0 && last != isFault(last.Fault) || need < 1 {
			t.Fatalf("%v: %s", last, told(p))
		}
		if last.Kind == api.KindVertex && !s.Has(last.N) || last.Kind == api.KindBool && last.N != 0 && last.N != 1 {
			t.Fatalf("%v: %s", last, told(p))
		}
		for budget := range min(need+3, 400) {
			want, many := isFault(api.FaultFuel), budget
			if budget >= need {
				want, many = last, need
			}
			if a, n := plan.Ask(p, s, budget); a != want || n != many {
				t.Fatalf("with %d: %v, %d; with enough %v, %d: %s", budget, a, n, last, need, told(p))
			}
		}
	}
}

// What cells keep is what would be reckoned anew: without them a plan is worth the same, faults too, and no fewer other parts are asked for it.
func TestL4WithoutCells(t *testing.T) {
	next := numbers()
	d := drawing(40, 3, 0)
	fewer := 0
	for i := range 6000 {
		p, s := d.plan(1+i%3, 6), drawnGraph(t, next)
		a, n := plan.Ask(p, s, 1000000)
		b, many := plan.Ask(made(bare(p.Root)), s, 1000000)
		if a.Fault == api.FaultFuel || b.Fault == api.FaultFuel {
			continue
		}
		if a != b {
			t.Fatalf("%v, and %v without cells: %s", a, b, told(p))
		}
		_, parts := plainAsk(p, factsOf(s), 1000000)
		others := len(parts) - countCells(parts)
		if n != len(parts) || others > many {
			t.Fatalf("%d, %d of them no cells, and %d without cells: %s", n, others, many, told(p))
		}
		if others < many {
			fewer++
		}
	}
	if fewer < 300 {
		t.Errorf("%d", fewer)
	}
}

func countCells(parts []api.Node) int {
	many := 0
	for _, n := range parts {
		if n.Kind == api.ECell {
			many++
		}
	}
	return many
}

// A store stays as it is: whatever is asked of it, or done to it later, answers as if no plan had been asked.
func TestL3StoresStay(t *testing.T) {
	next := numbers()
	d := drawing(20, 3, 0)
	for round := range 12 {
		s, twin := docGraph(t), docGraph(t)
		for i := range 60 {
			for range 4 {
				plan.Ask(d.plan(1+i%3, 5), s, next(3000))
			}
			alter(t, s, twin, next)
			if i%10 == round%10 && everything(s) != everything(twin) {
				t.Fatalf("behind %d changes: %s, not %s", i, everything(s), everything(twin))
			}
		}
		if everything(s) != everything(twin) {
			t.Fatal("another graph")
		}
	}
}

// alter does one thing to two stores, which must answer the same.
func alter(t *testing.T, s, twin *store.Store, next func(int) int) {
	t.Helper()
	which, id, u, v, n := next(9), next(12), next(8), next(8), next(41)-20
	name := []string{"few", "many", "even"}[next(3)]
	do := func(s *store.Store) api.Errno {
		switch which {
		case 0:
			return s.AddVertex(u, n)
		case 1:
			return s.DropVertex(u)
		case 2:
			return s.SetValue(u, n)
		case 3, 4:
			return s.AddEdge(id, u, v, n)
		case 5:
			return s.DropEdge(id)
		case 6:
			return s.SetWeight(id, n)
		case 7:
			return s.AddSet(name)
		}
		return s.Put(name, u)
	}
	if a, b := do(s), do(twin); a != b {
		t.Fatalf("%d and %d of change %d", a, b, which)
	}
}

// What is asked hangs on the graph alone: not on the plans that were asked ahead, nor on how the graph came to be.
func TestL3NothingIsKept(t *testing.T) {
	next := numbers()
	d := drawing(30, 3, 0)
	for range 40 {
		s := drawnGraph(t, next)
		var plans []api.Plan
		var answers []api.Answer
		for i := range 20 {
			p := d.plan(1+i%3, 4)
			a, _ := plan.Ask(p, s, 5000)
			plans, answers = append(plans, p), append(answers, a)
		}
		other := rebuilt(t, s)
		for i := range plans {
			k := len(plans) - 1 - i
			if a, _ := plan.Ask(plans[k], s, 5000); a != answers[k] {
				t.Fatalf("%v, and then %v: %s", answers[k], a, told(plans[k]))
			}
			if a, _ := plan.Ask(plans[k], other, 5000); a != answers[k] {
				t.Fatalf("%v, and %v in the same graph: %s", answers[k], a, told(plans[k]))
			}
		}
	}
}

// rebuilt is a store of the same graph, whose vertices and edges came in another order.
func rebuilt(t *testing.T, s *store.Store) *store.Store {
	other := newStore(t)
	for _, v := range s.Vertices() {
		other.AddVertex(v.ID, 0)
		other.SetValue(v.ID, v.Value)
	}
	edges := s.Edges()
	for i := range edges {
		x := edges[len(edges)-1-i]
		other.AddEdge(x.ID, x.V, x.U, x.Weight)
	}
	for _, name := range s.Sets() {
		other.AddSet(name)
		ids, _ := s.Members(name)
		for _, id := range ids {
			other.Put(name, id)
		}
	}
	return other
}
