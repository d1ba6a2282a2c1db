package fold_test

import (
	"reflect"
	"testing"

	"isthmus/api"
	"isthmus/fold"
	"isthmus/plan"
	"isthmus/store"
)

// enough is a budget that nearly all drawn plans can do with.
const enough = 200000

// holdTheorem holds a plan that was folded to the one that it came of, in some graphs: how many parts less were asked.
func holdTheorem(t *testing.T, p api.Plan, graphs ...*store.Store) int {
	t.Helper()
	f, err := fold.Fold(p)
	if err != api.OK || !plan.Right(f) || plan.Kind(f) != plan.Kind(p) || countParts(f.Root) > countParts(p.Root) {
		t.Fatalf("%s became %s", told(p), told(f))
	}
	if again, err := fold.Fold(f); err != api.OK || !plan.Same(again, f) {
		t.Fatalf("%s became %s, and then %s", told(p), told(f), told(again))
	}
	less := 0
	for _, s := range graphs {
		a, many := plan.Ask(p, s, enough)
		b, few := plan.Ask(f, s, enough)
		if few > many || a.Fault != api.FaultFuel && a != b {
			t.Fatalf("%s: %v, %d; folded, %s: %v, %d", told(p), a, many, told(f), b, few)
		}
		less += many - few
	}
	return less
}

func TestF2DrawnPlans(t *testing.T) {
	next := numbers()
	graphs := []*store.Store{docGraph(t), newStore(t)}
	for range 40 {
		graphs = append(graphs, drawnGraph(t, next))
	}
	less := 0
	for _, d := range []*drawn{drawing(0, 5, 0), drawing(15, 5, 0), drawing(40, 5, 0), drawing(10, 40, 0)} {
		for i := range 3000 {
			some := next(len(graphs) - 2)
			less += holdTheorem(t, d.plan(1+i%3, 3+i%5), graphs[some:some+3]...)
		}
	}
	if less < 50000 {
		t.Errorf("%d", less)
	}
}

// Faults are what they were: a part that may come to one is asked still, and ahead of the others.
func TestF2Faults(t *testing.T) {
	s := docGraph(t)
	for text, fault := range map[string]int{
		"9223372036854775807 + 1": api.FaultOverflow, "0 + 9223372036854775807 * 2": api.FaultOverflow, "1 / 0 + size(@9)": api.FaultZero, "size(@9) + 1 / 0": api.FaultVertex, "0 * size(@9)": api.FaultVertex, "size(@9) * 0": api.FaultVertex, "size(@9) - size(@9)": api.FaultVertex,
		"connected(@1, @9) and false": api.FaultVertex, "connected(@1, @9) or true": api.FaultVertex, "if connected(@1, @9) then 1 else 1": api.FaultVertex, "@9 = @9": api.FaultVertex, "not not connected(@1, @9)": api.FaultVertex,
		"all v in nobody: true": api.FaultSet, "some v in nobody: false": api.FaultSet, "count v in nobody: false": api.FaultSet, "sum v in nobody: 0": api.FaultSet, "all v in around(@9): true": api.FaultVertex, "count v in {@9}: false": api.FaultVertex,
		"min v in {}: 1": api.FaultEmpty, "max v in {}: 1 / 0": api.FaultEmpty, "bottleneck(@1, @5) / 1": api.FaultEmpty, "0 + (min v in {}: 1) + 1 / 0": api.FaultEmpty, "1 % 0": api.FaultZero, "7 % (2 - 2)": api.FaultZero,
		"all v in vertices: 1 / 0 = 1": api.FaultZero, "some v in vertices: size(@9) = 1 and false": api.FaultVertex,
	} {
		p := planOf(t, text)
		holdTheorem(t, p, s)
		f, _ := fold.Fold(p)
		if a, _ := plan.Ask(f, s, enough); a != (api.Answer{Fault: fault}) {
			t.Errorf("%q: %v, folded %s", text, a, told(f))
		}
	}
}

// What comes of the document's examples is worth what they are.
func TestF2Answers(t *testing.T) {
	s := docGraph(t)
	for text, n := range map[string]int{
		"1 + 2 * 3": 7, "size(@2) * 1 + 0": 4, "total(@2) / (3 - 2)": 100, "if 1 < 2 then least(@5) else 1 / 0": 50, "count v in few: connected(v, @1) and (true or 1 / 0 = 1)": 2, "max v in vertices: 0 + degree(v)": 3, "sum v in {}: 1 / 0": 0, "count v in vertices: not true": 0,
	} {
		p := planOf(t, text)
		f, _ := fold.Fold(p)
		if a, _ := plan.Ask(f, s, enough); a != (api.Answer{Kind: api.KindInt, N: n}) {
			t.Errorf("%q: %v", text, a)
		}
		if less := holdTheorem(t, p, s); less < 1 {
			t.Errorf("%q: %d parts less", text, less)
		}
	}
}

// A plan is only looked at; and what comes out is memory of its own, spare room too.
func TestF1Memory(t *testing.T) {
	d := drawing(20, 5, 0)
	for i := range 1500 {
		p := d.plan(1+i%3, 3+i%4)
		grow(&p)
		before := spread(p)
		f, _ := fold.Fold(p)
		if !reflect.DeepEqual(before, spread(p)) {
			t.Fatalf("was written into: %s", told(p))
		}
		want := told(f)
		again, _ := fold.Fold(p)
		scribble(t, &f.Root)
		for i := range f.Cells[:cap(f.Cells)] {
			f.Cells[:cap(f.Cells)][i] = -9
		}
		if told(again) != want || !reflect.DeepEqual(before, spread(p)) {
			t.Fatalf("%s was written into, and is %s", want, told(again))
		}
		scribble(t, &p.Root)
		if told(again) != want {
			t.Fatalf("%s hung on what was handed in, and is %s", want, told(again))
		}
	}
}

// One list of kids that stands at several places becomes several lists.
func TestF1SharedMemory(t *testing.T) {
	kids := []api.Node{call(api.CallSize, vertex(1)), integer(2)}
	sum := api.Node{Kind: api.EAdd, Kids: kids}
	both := []api.Node{sum, sum}
	p := made(of(api.ESub, api.Node{Kind: api.EMul, Kids: both}, api.Node{Kind: api.EDiv, Kids: both}))
	f, err := fold.Fold(p)
	if err != api.OK || !plan.Same(f, p) {
		t.Fatalf("%d, %s", err, told(f))
	}
	scribble(t, &f.Root)
}

// grow gives all lists some room, with something in it.
func grow(p *api.Plan) {
	each(&p.Root, func(n *api.Node) {
		n.Kids = append(make([]api.Node, 0, len(n.Kids)+2), n.Kids...)
		spare := n.Kids[len(n.Kids):cap(n.Kids)]
		for i := range spare {
			spare[i] = api.Node{Kind: -5, N: 77}
		}
	})
	p.Cells = append(make([]int, 0, len(p.Cells)+3), p.Cells...)
	spare := p.Cells[len(p.Cells):cap(p.Cells)]
	for i := range spare {
		spare[i] = 77
	}
}

// spread is a copy of a plan that has what stands behind the lengths of its lists too.
func spread(p api.Plan) api.Plan {
	return api.Plan{Root: spreadNode(p.Root), Cells: append([]int(nil), p.Cells[:cap(p.Cells)]...)}
}

func spreadNode(n api.Node) api.Node {
	var kids []api.Node
	for _, kid := range n.Kids[:cap(n.Kids)] {
		kids = append(kids, spreadNode(kid))
	}
	n.Kids = kids
	return n
}

// scribble writes into all lists that a node has, and behind them; a list that was written into already shares its memory with another one.
func scribble(t *testing.T, n *api.Node) {
	t.Helper()
	for i := range n.Kids {
		scribble(t, &n.Kids[i])
	}
	room := n.Kids[:cap(n.Kids)]
	for i := range room {
		if room[i].Kind == -9 {
			t.Fatal("two lists share memory")
		}
		room[i] = api.Node{Kind: -9}
	}
}
