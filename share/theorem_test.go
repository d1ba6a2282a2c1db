package share_test

import (
	"fmt"
	"reflect"
	"testing"

	"isthmus/api"
	"isthmus/fold"
	"isthmus/hoist"
	"isthmus/plan"
	"isthmus/share"
	"isthmus/store"
)

// enough is a budget that nearly all drawn plans can do with.
const enough = 100000

// without is a part whose cells from one on are taken away, what they keep in their place.
func without(n api.Node, from int) api.Node {
	if n.Kind == api.ECell && n.N >= from {
		return without(n.Kids[0], from)
	}
	var kids []api.Node
	for _, kid := range n.Kids {
		kids = append(kids, without(kid, from))
	}
	n.Kids = kids
	return n
}

// holdWorth holds what came of a plan to that, in some graphs: both are right, of one kind, and worth the same.
func holdWorth(t *testing.T, p, q api.Plan, graphs ...*store.Store) {
	t.Helper()
	if !plan.Right(q) || plan.Kind(q) != plan.Kind(p) {
		t.Fatalf("%s became %s", told(p), told(q))
	}
	for _, s := range graphs {
		a, _ := plan.Ask(p, s, enough)
		if a.Fault == api.FaultFuel {
			continue
		}
		if b, _ := plan.Ask(q, s, 4*enough); a != b {
			t.Fatalf("%s: %v; it became %s: %v", told(p), a, told(q), b)
		}
	}
}

// holdReps holds the theorem of what Reps gives.
func holdReps(t *testing.T, p api.Plan, graphs ...*store.Store) api.Plan {
	t.Helper()
	q, err := share.Reps(p)
	again, fault := share.Reps(q)
	if err != api.OK || fault != api.OK || !same(q, again) {
		t.Fatalf("%s became %s, and that %s", told(p), told(q), told(again))
	}
	holdWorth(t, p, q, graphs...)
	return q
}

// holdShare holds the theorem of what Share gives: how many calls less were asked.
func holdShare(t *testing.T, p api.Plan, graphs ...*store.Store) int {
	t.Helper()
	q, err := share.Share(p)
	had := len(p.Cells)
	if err != api.OK || len(q.Cells) < had || !same(made(without(q.Root, had)), made(p.Root)) || !same(made(q.Root, q.Cells[:had]...), made(q.Root, p.Cells...)) {
		t.Fatalf("%s became %s", told(p), told(q))
	}
	holdWorth(t, p, q, graphs...)
	less := 0
	for _, s := range graphs {
		if a, _ := plan.Ask(p, s, enough); a.Fault != api.FaultFuel {
			less += holdCalls(t, p, q, s, a)
		}
	}
	return less
}

// holdCalls counts the calls that are asked of both plans, by a plain asker that asks as many parts as the layer below does.
func holdCalls(t *testing.T, p, q api.Plan, s *store.Store, a api.Answer) int {
	t.Helper()
	had := len(p.Cells)
	_, many := plan.Ask(p, s, enough)
	_, few := plan.Ask(q, s, 4*enough)
	n, end, asked, calls := askPlainly(p, had, s)
	m, ended, later, fewer := askPlainly(q, had, s)
	if n != a.N || end != a.Fault || asked != many || m != a.N || ended != a.Fault || later != few {
		t.Fatalf("%s: %d, %d, %d; it became %s: %d, %d, %d; wanted %v, %d, %d", told(p), n, end, asked, told(q), m, ended, later, a, many, few)
	}
	less := 0
	for name, times := range fewer {
		if times > calls[name] {
			t.Fatalf("%s is asked %d times, then %d: %s became %s", name, calls[name], times, told(p), told(q))
		}
		less -= times
	}
	for _, times := range calls {
		less += times
	}
	return less
}

func drawnGraphs(t *testing.T, many int) []*store.Store {
	next := numbers()
	graphs := []*store.Store{docGraph(t), newStore(t)}
	for range many {
		graphs = append(graphs, drawnGraph(t, next))
	}
	return graphs
}

func TestZ3DrawnPlans(t *testing.T) {
	next := numbers()
	graphs := drawnGraphs(t, 40)
	less, mixed, great := 0, 0, 0
	for _, d := range []*drawn{drawing(10, 0, 0), drawing(25, 0, 0), drawing(20, 10, 0), drawing(30, 30, 0)} {
		for i := range 2000 {
			p := d.plan(1+i%3, 3+i%6)
			some := next(len(graphs) - 1)
			if countParts(p.Root) > 800 {
				great++
				continue
			}
			holdReps(t, p, graphs[some:some+2]...)
			if isMixed(p) {
				mixed++
				continue
			}
			less += holdShare(t, p, graphs[some:some+2]...)
		}
	}
	if less < 7500 || mixed > 100 || great > 100 {
		t.Errorf("%d, %d, %d", less, mixed, great)
	}
}

// All passes in whatever order: what comes of queries stays worth what they mean.
func TestZ3AllPasses(t *testing.T) {
	passes := []func(api.Plan) (api.Plan, api.Errno){fold.Fold, share.Reps, hoist.Hoist, share.Share}
	graphs := drawnGraphs(t, 20)
	d := drawing(25, 0, 0)
	mixed, left := 0, 0
	for i := range 600 {
		p := d.plan(1+i%3, 3+i%5)
		q := p
		for order := i; order > 0 && countParts(q.Root) <= 500; order /= 4 {
			if isMixed(q) {
				mixed++
				break
			}
			next, err := passes[order%4](q)
			if err != api.OK {
				t.Fatalf("%d of %s", err, told(q))
			}
			q = next
			left++
			holdWorth(t, p, q, graphs[i%len(graphs)], graphs[0])
		}
	}
	if mixed > 30 || left < 2000 {
		t.Errorf("%d, %d", mixed, left)
	}
}

// What comes of a plan, and of that again, and of what the layer below made of it.
func TestZ3Again(t *testing.T) {
	graphs := drawnGraphs(t, 10)
	d := drawing(25, 10, 0)
	for i := range 800 {
		p := d.plan(1+i%3, 3+i%5)
		if isMixed(p) {
			continue
		}
		for round := range 3 {
			holdShare(t, p, graphs[i%len(graphs)])
			p, _ = passed(t, shares, p)
			if round == 1 {
				p, _ = hoist.Hoist(p)
			}
			holdReps(t, p, graphs[i%len(graphs)])
		}
	}
}

// Calls that stand twice are asked once, or once for each vertex of the round on which they hang.
func TestZ3Calls(t *testing.T) {
	s := docGraph(t)
	for query, want := range map[string][2]int{
		"size(@1) + size(@1)": {2, 1}, "size(@1) + size(@2)": {2, 2}, "size(@1) + size(@1) * size(@2)": {3, 2}, "size(rep(@1)) + size(rep(@1))": {4, 2}, "size(rep(@1)) + value(rep(@1))": {4, 3},
		"sum v in vertices: value(v) * value(v)":                            {10, 5},
		"sum v in vertices: size(@1)":                                       {5, 5},
		"sum v in vertices: size(@1) + size(@1)":                            {10, 1},
		"size(@1) + (sum v in vertices: size(@1))":                          {6, 1},
		"(sum v in few: value(v)) + (sum v in few: value(v))":               {6, 6},
		"sum v in few: sum w in few: value(v) + value(v) + value(w)":        {27, 12},
		"sum v in few: (sum w in few: value(v)) + value(v)":                 {12, 3},
		"true or size(@1) = size(@1)":                                       {0, 0},
		"if connected(@1, @5) then size(@1) else size(@1) + value(@5)":      {3, 3},
		"count v in vertices: connected(v, @1) and not connected(v, @1)":    {9, 5},
		"sum v in around(rep(@1)): value(rep(@1)) + bottleneck(rep(@1), v)": {5, 3},
		"sum v in around(rep(@1)): value(rep(@1)) + degree(rep(@1))":        {17, 9},
	} {
		p := planOf(t, query)
		q, _ := share.Share(p)
		less := holdShare(t, p, s)
		count := func(p api.Plan) int {
			many := 0
			_, _, _, calls := askPlainly(p, 0, s)
			for _, times := range calls {
				many += times
			}
			return many
		}
		if got := [2]int{count(p), count(q)}; got != want || less != got[0]-got[1] {
			t.Errorf("%q: %v, wanted %v", query, got, want)
		}
	}
}

// What is not come to is not asked, and comes to no fault; what comes to one does so where it did.
func TestZ3Faults(t *testing.T) {
	s := docGraph(t)
	no, yes := api.Answer{Kind: api.KindBool}, api.Answer{Kind: api.KindBool, N: 1}
	for query, want := range map[string]api.Answer{
		"size(@9) + size(@9)": {Fault: api.FaultVertex}, "1 / 0 + size(@9) + size(@9)": {Fault: api.FaultZero}, "size(@9) / 0 + size(@9)": {Fault: api.FaultVertex}, "bottleneck(@1, @5) + bottleneck(@1, @5)": {Fault: api.FaultEmpty}, "bottleneck(@1, @5) / 0 + bottleneck(@1, @5)": {Fault: api.FaultEmpty},
		"true or size(@9) = size(@9)": yes, "if true then size(@1) else size(@9) + size(@9)": {Kind: api.KindInt, N: 4}, "sum v in {}: size(@9) + size(@9)": {Kind: api.KindInt}, "all v in few: v = @1 or bottleneck(v, @1) = bottleneck(v, @1)": {Fault: api.FaultEmpty}, "some v in few: v = @1 or bottleneck(v, @1) = bottleneck(v, @1)": yes,
		"all v in few: connected(v, @9)": {Fault: api.FaultVertex}, "all v in few: connected(@9, v)": {Fault: api.FaultVertex}, "all v in {}: connected(@9, v)": yes, "some v in few: connected(@2, v) and connected(@3, v)": yes, "all v in few: connected(@2, v) and connected(@2, v)": no,
		"all v in few: connected(if 1 / 0 = 1 then v else v, @9)": {Fault: api.FaultZero}, "all v in few: connected(@9, if 1 / 0 = 1 then v else v)": {Fault: api.FaultVertex}, "all v in few: connected(v, if 1 / 0 = 1 then v else v)": {Fault: api.FaultZero}, "sum v in nobody: if connected(v, v) and connected(v, v) then 1 else 2": {Fault: api.FaultSet},
	} {
		p := planOf(t, query)
		holdShare(t, p, s)
		holdReps(t, p, s)
		for _, x := range []pass{reps, shares} {
			q, _ := passed(t, x, p)
			if got, _ := plan.Ask(q, s, enough); got != want {
				t.Errorf("%s of %q: %v, wanted %v", x.name, query, got, want)
			}
		}
	}
}

// Representatives tell connections, in each graph between each two.
func TestZ3Connections(t *testing.T) {
	for i, s := range drawnGraphs(t, 60) {
		for u := range 8 {
			p := planOf(t, fmt.Sprintf("sum v in vertices: sum w in vertices: (if connected(v, w) then value(v) * value(w) else 1) - (count x in {v, w}: connected(x, @%d))", u))
			q := holdReps(t, p, s)
			connects := false
			each(&q.Root, func(n *api.Node) { connects = connects || n.Kind == api.ECall && n.N == api.CallConnected })
			if connects {
				t.Fatalf("%d: %s", i, told(q))
			}
			holdShare(t, p, s)
			holdShare(t, q, s)
		}
	}
}

// Plans of up to 2048 parts come out right of Share, and of up to 800 of Reps.
func TestZ3GreatPlans(t *testing.T) {
	s := docGraph(t)
	size := func(i int) api.Node { return call(api.CallSize, vertex(1+i%4)) }
	rep := func(n api.Node) api.Node { return call(api.CallRep, n) }
	for i := 6; i <= 64; i++ {
		s.AddVertex(i, i)
	}
	apart := func(i int) api.Node { return call(api.CallSize+i/64%6, vertex(1+i%64)) }
	for _, x := range []struct {
		root api.Node
		less int
	}{
		{quant(api.QuantSum, setName("few"), of(api.ENeg, summed(682, size))), 3*682 - 4},
		{of(api.EEq, of(api.EEq, chain(1022, vertex(4), rep), chain(1021, vertex(4), rep)), boolean(1)), 1021},
		{quant(api.QuantSum, setName("few"), of(api.ENeg, summed(682, apart))), 256 * 5}, // 384 unlike ones, and 298 of them twice
	} {
		p := made(x.root)
		if countParts(p.Root) != 2048 {
			t.Fatal(countParts(p.Root))
		}
		if less := holdShare(t, p, s); less != x.less {
			t.Errorf("%d, wanted %d", less, x.less)
		}
	}
	joined := call(api.CallConnected, variable(0), vertex(1))
	for range 199 {
		joined = of(api.EAnd, joined, call(api.CallConnected, vertex(3), variable(0)))
	}
	for _, n := range []api.Node{joined, of(api.EEq, chain(798, variable(0), rep), variable(0))} {
		holdReps(t, made(quant(api.QuantSome, setName("few"), n)), s)
	}
	deep := of(api.EEq, variable(0), chain(159, variable(0), func(n api.Node) api.Node {
		return of(api.EIf, call(api.CallConnected, n, vertex(1)), vertex(2), variable(0))
	}))
	p := made(quant(api.QuantSome, setName("few"), deep))
	if countParts(p.Root) > 800 {
		t.Fatal(countParts(p.Root))
	}
	holdReps(t, p, s)
}

// A plan is only looked at; and what comes out is memory of its own, spare room too.
func TestZ3Memory(t *testing.T) {
	for _, x := range []pass{reps, shares} {
		d := drawing(25, 15, 0)
		for i := range 1500 {
			p := d.plan(1+i%3, 3+i%5)
			grow(&p)
			before := spread(p)
			h, _ := x.does(p)
			if !reflect.DeepEqual(before, spread(p)) {
				t.Fatalf("was written into: %s", told(p))
			}
			want := told(h)
			again, _ := x.does(p)
			scribble(t, &h)
			if told(again) != want || !reflect.DeepEqual(before, spread(p)) {
				t.Fatalf("%s was written into, and is %s", want, told(again))
			}
			scribble(t, &p)
			if told(again) != want {
				t.Fatalf("%s hung on what was handed in, and is %s", want, told(again))
			}
		}
	}
}

// One list of kids that stands at several places becomes several lists, in cells and out of them.
func TestZ3SharedMemory(t *testing.T) {
	one := []api.Node{vertex(1)}
	size := api.Node{Kind: api.ECall, N: api.CallSize, Kids: one}
	both := []api.Node{size, size}
	two := []api.Node{vertex(1), vertex(2)}
	kept := []api.Node{{Kind: api.EAdd, Kids: both}}
	links := api.Node{Kind: api.ECall, N: api.CallConnected, Kids: two}
	three := of(api.EIf, of(api.EAnd, links, links), api.Node{Kind: api.ECell, Kids: kept}, of(api.EMul, api.Node{Kind: api.ECell, Kids: kept}, api.Node{Kind: api.EAdd, Kids: both}))
	for _, x := range []pass{reps, shares} {
		q, is := passed(t, x, made(quant(api.QuantSum, all, three), 0))
		if !is {
			t.Fatal(told(q))
		}
		scribble(t, &q)
	}
}

// grow gives all lists some room, with something in it.
func grow(p *api.Plan) {
	each(&p.Root, func(n *api.Node) {
		n.Kids = append(make([]api.Node, 0, len(n.Kids)+2), n.Kids...)
		spare := n.Kids[len(n.Kids):cap(n.Kids)]
		for i := range spare {
			spare[i] = api.Node{Kind: -5, N: 77}
		}
	})
	p.Cells = append(make([]int, 0, len(p.Cells)+3), p.Cells...)
	spare := p.Cells[len(p.Cells):cap(p.Cells)]
	for i := range spare {
		spare[i] = 77
	}
}

// spread is a copy of a plan that has what stands behind the lengths of its lists too.
func spread(p api.Plan) api.Plan {
	return api.Plan{Root: spreadNode(p.Root), Cells: append([]int(nil), p.Cells[:cap(p.Cells)]...)}
}

func spreadNode(n api.Node) api.Node {
	var kids []api.Node
	for _, kid := range n.Kids[:cap(n.Kids)] {
		kids = append(kids, spreadNode(kid))
	}
	n.Kids = kids
	return n
}

// scribble writes into all lists that a plan has, and behind them.
func scribble(t *testing.T, p *api.Plan) {
	t.Helper()
	scribbleNode(t, &p.Root)
	room := p.Cells[:cap(p.Cells)]
	for i := range room {
		room[i] = -9
	}
}

// scribbleNode tells of a list that was written into already: it shares its memory with another one.
func scribbleNode(t *testing.T, n *api.Node) {
	t.Helper()
	for i := range n.Kids {
		scribbleNode(t, &n.Kids[i])
	}
	room := n.Kids[:cap(n.Kids)]
	for i := range room {
		if room[i].Kind == -9 {
			t.Fatal("two lists share memory")
		}
		room[i] = api.Node{Kind: -9}
	}
}
