package hoist_test

import (
	"reflect"
	"testing"

	"isthmus/api"
	"isthmus/hoist"
	"isthmus/plan"
	"isthmus/store"
)

// enough is a budget that nearly all drawn plans can do with.
const enough = 100000

// without is a part whose cells from one on are taken away, what they keep in their place.
func without(n api.Node, from int) api.Node {
	if n.Kind == api.ECell && n.N >= from {
		return without(n.Kids[0], from)
	}
	var kids []api.Node
	for _, kid := range n.Kids {
		kids = append(kids, without(kid, from))
	}
	n.Kids = kids
	return n
}

// holdTheorem holds what came of a plan to that, in some graphs: how many calls less were asked.
func holdTheorem(t *testing.T, p api.Plan, graphs ...*store.Store) int {
	t.Helper()
	h, err := hoist.Hoist(p)
	had := len(p.Cells)
	if err != api.OK || !plan.Right(h) || plan.Kind(h) != plan.Kind(p) || len(h.Cells) < had {
		t.Fatalf("%s became %s", told(p), told(h))
	}
	if !same(made(without(h.Root, had)), made(p.Root)) || !same(made(without(h.Root, 0)), made(without(p.Root, 0))) || !same(made(h.Root, h.Cells[:had]...), made(h.Root, p.Cells...)) {
		t.Fatalf("%s became %s", told(p), told(h))
	}
	less := 0
	for _, s := range graphs {
		a, many := plan.Ask(p, s, enough)
		if a.Fault == api.FaultFuel {
			continue
		}
		b, few := plan.Ask(h, s, 2*enough)
		if a != b {
			t.Fatalf("%s: %v; hoisted, %s: %v", told(p), a, told(h), b)
		}
		less += holdCalls(t, p, h, s, a, many, few)
	}
	return less
}

// holdCalls counts the calls that are asked of both plans, by a plain asker that asks as many parts as the layer below does.
func holdCalls(t *testing.T, p, h api.Plan, s *store.Store, a api.Answer, many, few int) int {
	t.Helper()
	had := len(p.Cells)
	n, end, asked, calls := askPlainly(p, had, s)
	m, ended, later, fewer := askPlainly(h, had, s)
	if n != a.N || end != a.Fault || asked != many || m != a.N || ended != a.Fault || later != few {
		t.Fatalf("%s: %d, %d, %d; hoisted, %s: %d, %d, %d; wanted %v, %d, %d", told(p), n, end, asked, told(h), m, ended, later, a, many, few)
	}
	less := 0
	for name, times := range fewer {
		if times > calls[name] {
			t.Fatalf("%s is asked %d times, hoisted %d: %s became %s", name, calls[name], times, told(p), told(h))
		}
		less -= times
	}
	for _, times := range calls {
		less += times
	}
	return less
}

func drawnGraphs(t *testing.T, many int) []*store.Store {
	next := numbers()
	graphs := []*store.Store{docGraph(t), newStore(t)}
	for range many {
		graphs = append(graphs, drawnGraph(t, next))
	}
	return graphs
}

func TestH2DrawnPlans(t *testing.T) {
	next := numbers()
	graphs := drawnGraphs(t, 40)
	less := 0
	for _, d := range []*drawn{drawing(0, 2, 0), drawing(10, 2, 0), drawing(30, 2, 0)} {
		for i := range 2500 {
			some := next(len(graphs) - 1)
			less += holdTheorem(t, d.plan(1+i%3, 3+i%6), graphs[some:some+2]...)
		}
	}
	if less < 8000 {
		t.Errorf("%d", less)
	}
}

// What comes of a plan that was hoisted, and of that again.
func TestH2Again(t *testing.T) {
	graphs := drawnGraphs(t, 10)
	d := drawing(10, 2, 0)
	for i := range 1200 {
		p := d.plan(1+i%3, 3+i%5)
		for range 3 {
			holdTheorem(t, p, graphs[i%len(graphs)])
			p, _ = hoisted(t, p)
		}
	}
}

// Calls that do not change are asked once, or once for each vertex of the round on which they hang.
func TestH2Calls(t *testing.T) {
	s := docGraph(t)
	for query, want := range map[string][2]int{
		"sum v in vertices: size(@1)": {5, 1}, "sum v in few: size(@1) + value(v)": {6, 4}, "sum v in {}: size(@9)": {0, 0}, "size(@1) + size(@1)": {2, 2},
		"sum v in vertices: sum w in vertices: value(v)":                                     {25, 5},
		"sum v in vertices: sum w in vertices: size(@1)":                                     {25, 1},
		"sum v in vertices: sum w in vertices: value(w)":                                     {25, 5},
		"sum v in vertices: sum w in vertices: value(w) + value(v)":                          {50, 30},
		"sum v in vertices: size(rep(rep(@1)))":                                              {15, 3},
		"count v in vertices: v = @1 or connected(v, @1) and connected(@1, @5)":              {7, 5},
		"sum v in few: count w in around(rep(@1)): value(w) < value(@3)":                     {27, 6},
		"all v in vertices: some w in vertices: connected(v, @1) and value(w) = value(v)":    {35, 19},
		"sum v in few: sum w in few: sum x in few: sum y in few: degree(v) + degree(rep(x))": {243, 21},
	} {
		p := planOf(t, query)
		h, _ := hoist.Hoist(p)
		less := holdTheorem(t, p, s)
		_, _, _, calls := askPlainly(p, 0, s)
		_, _, _, fewer := askPlainly(h, 0, s)
		count := func(calls map[string]int) int {
			all := 0
			for _, times := range calls {
				all += times
			}
			return all
		}
		if got := [2]int{count(calls), count(fewer)}; got != want || less != got[0]-got[1] {
			t.Errorf("%q: %v, wanted %v", query, got, want)
		}
	}
}

// What is not come to is not asked, and comes to no fault; what comes to one does so where it did.
func TestH2Faults(t *testing.T) {
	s := docGraph(t)
	for query, want := range map[string]api.Answer{
		"sum v in {}: size(@9)": {Kind: api.KindInt}, "sum v in few: size(@9)": {Fault: api.FaultVertex}, "sum v in few: 1 / 0 + size(@9)": {Fault: api.FaultZero}, "sum v in few: size(@9) + 1 / 0": {Fault: api.FaultVertex},
		"all v in few: true or connected(@1, @9)": {Kind: api.KindBool, N: 1}, "some v in few: v = @1 or connected(@1, @9)": {Kind: api.KindBool, N: 1}, "all v in few: v = @1 or connected(@1, @9)": {Fault: api.FaultVertex},
		"sum v in few: min w in {}: 1": {Fault: api.FaultEmpty}, "sum v in few: bottleneck(@1, @5)": {Fault: api.FaultEmpty}, "sum v in few: if v = @9 then size(@9) else 1": {Fault: api.FaultVertex}, "sum v in few: if v = @2 then size(@9) else 1": {Kind: api.KindInt, N: 3},
		"sum v in few: count w in nobody: true": {Fault: api.FaultSet}, "sum v in {}: count w in nobody: true": {Kind: api.KindInt}, "sum v in few: sum w in few: if v = w then 9223372036854775807 - total(@1) else total(@1)": {Fault: api.FaultOverflow},
	} {
		p := planOf(t, query)
		holdTheorem(t, p, s)
		h, _ := hoist.Hoist(p)
		if got, _ := plan.Ask(h, s, enough); got != want {
			t.Errorf("%q: %v, wanted %v", query, got, want)
		}
	}
}

// Plans of up to 2048 parts come out right, with as many cells as there may be.
func TestH2GreatPlans(t *testing.T) {
	s := docGraph(t)
	size := func(i int) api.Node { return call(api.CallSize, vertex(1+i%4)) }
	p := made(quant(api.QuantSum, setName("few"), of(api.ENeg, summed(682, size))))
	if countParts(p.Root) != 2048 {
		t.Fatal(countParts(p.Root))
	}
	if less := holdTheorem(t, p, s); less != 2*256 {
		t.Errorf("%d", less)
	}
	rep := func(n api.Node) api.Node { return call(api.CallRep, n) }
	p = made(quant(api.QuantSum, setName("few"), call(api.CallSize, chain(2044, vertex(4), rep))))
	if countParts(p.Root) != 2048 {
		t.Fatal(countParts(p.Root))
	}
	if less := holdTheorem(t, p, s); less != 2*2045 {
		t.Errorf("%d", less)
	}
}

// A plan is only looked at; and what comes out is memory of its own, spare room too.
func TestH1Memory(t *testing.T) {
	d := drawing(15, 5, 0)
	for i := range 1500 {
		p := d.plan(1+i%3, 3+i%5)
		grow(&p)
		before := spread(p)
		h, _ := hoist.Hoist(p)
		if !reflect.DeepEqual(before, spread(p)) {
			t.Fatalf("was written into: %s", told(p))
		}
		want := told(h)
		again, _ := hoist.Hoist(p)
		scribble(t, &h)
		if told(again) != want || !reflect.DeepEqual(before, spread(p)) {
			t.Fatalf("%s was written into, and is %s", want, told(again))
		}
		scribble(t, &p)
		if told(again) != want {
			t.Fatalf("%s hung on what was handed in, and is %s", want, told(again))
		}
	}
}

// One list of kids that stands at several places becomes several lists, in cells and out of them.
func TestH1SharedMemory(t *testing.T) {
	one := []api.Node{vertex(1)}
	size := api.Node{Kind: api.ECall, N: api.CallSize, Kids: one}
	both := []api.Node{size, size}
	kept := []api.Node{{Kind: api.EAdd, Kids: both}}
	three := of(api.EIf, boolean(1), api.Node{Kind: api.ECell, Kids: kept}, of(api.EMul, api.Node{Kind: api.ECell, Kids: kept}, api.Node{Kind: api.EAdd, Kids: both}))
	h, is := hoisted(t, made(quant(api.QuantSum, all, three), 0))
	if !is || len(h.Cells) != 3 {
		t.Fatal(told(h))
	}
	scribble(t, &h)
}

// grow gives all lists some room, with something in it.
func grow(p *api.Plan) {
	each(&p.Root, func(n *api.Node) {
		n.Kids = append(make([]api.Node, 0, len(n.Kids)+2), n.Kids...)
		spare := n.Kids[len(n.Kids):cap(n.Kids)]
		for i := range spare {
			spare[i] = api.Node{Kind: -5, N: 77}
		}
	})
	p.Cells = append(make([]int, 0, len(p.Cells)+3), p.Cells...)
	spare := p.Cells[len(p.Cells):cap(p.Cells)]
	for i := range spare {
		spare[i] = 77
	}
}

// spread is a copy of a plan that has what stands behind the lengths of its lists too.
func spread(p api.Plan) api.Plan {
	return api.Plan{Root: spreadNode(p.Root), Cells: append([]int(nil), p.Cells[:cap(p.Cells)]...)}
}

func spreadNode(n api.Node) api.Node {
	var kids []api.Node
	for _, kid := range n.Kids[:cap(n.Kids)] {
		kids = append(kids, spreadNode(kid))
	}
	n.Kids = kids
	return n
}

// scribble writes into all lists that a plan has, and behind them.
func scribble(t *testing.T, p *api.Plan) {
	t.Helper()
	scribbleNode(t, &p.Root)
	room := p.Cells[:cap(p.Cells)]
	for i := range room {
		room[i] = -9
	}
}

// scribbleNode tells of a list that was written into already: it shares its memory with another one.
func scribbleNode(t *testing.T, n *api.Node) {
	t.Helper()
	for i := range n.Kids {
		scribbleNode(t, &n.Kids[i])
	}
	room := n.Kids[:cap(n.Kids)]
	for i := range room {
		if room[i].Kind == -9 {
			t.Fatal("two lists share memory")
		}
		room[i] = api.Node{Kind: -9}
	}
}
