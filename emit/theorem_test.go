package emit_test

import (
	"math"
	"strconv"
	"testing"

	"isthmus/api"
	"isthmus/emit"
	"isthmus/fold"
	"isthmus/hoist"
	"isthmus/plan"
	"isthmus/share"
	"isthmus/store"
)

// negated is a part in so many ENegs.
func negated(many int, n api.Node) api.Node {
	return chain(many, n, func(n api.Node) api.Node { return of(api.ENeg, n) })
}

// The greatest plans that there are, of parts of one kind as far as that can be.
func TestE2GreatPlans(t *testing.T) {
	yes := boolean(1)
	sums := func(n api.Node, one func(i int) api.Node, many int) api.Node {
		for i := range many {
			n = of(api.EAdd, n, one(i))
		}
		return n
	}
	for _, root := range []api.Node{
		negated(4095, integer(7)),
		chain(4095, vertex(7), func(n api.Node) api.Node { return call(api.CallRep, n) }),
		chain(2047, yes, func(n api.Node) api.Node { return of(api.EAnd, n, yes) }),
		chain(2047, yes, func(n api.Node) api.Node { return of(api.EOr, yes, n) }),
		chain(2047, yes, func(n api.Node) api.Node { return of(api.ENe, n, yes) }),
		chain(1365, integer(7), func(n api.Node) api.Node { return of(api.EIf, yes, n, integer(8)) }),
		chain(1365, integer(7), func(n api.Node) api.Node { return of(api.EIf, yes, integer(8), n) }),
		chain(1365, vertex(7), func(n api.Node) api.Node { return of(api.EIf, yes, vertex(8), n) }),
		chain(1365, yes, func(n api.Node) api.Node { return of(api.EIf, n, yes, boolean(0)) }),
		sums(integer(-1), func(i int) api.Node { return integer(i) }, 2047),
		sums(integer(7), func(i int) api.Node { return quant(api.QuantSum+i%3, all, integer(i)) }, 1023),
		sums(integer(7), func(i int) api.Node { return quant(api.QuantCount, all, boolean(i%2)) }, 1023),
		chain(1023, yes, func(n api.Node) api.Node { return of(api.EAnd, n, quant(api.QuantAll, all, yes)) }),
		chain(1023, yes, func(n api.Node) api.Node { return of(api.EOr, n, quant(api.QuantSome, all, yes)) }),
		sum(list(1024), negated(3069, integer(7))),
	} {
		for _, cells := range [][]int{nil, {0, 1, 2, 3, 4}, make([]int, 256)} {
			if many := countParts(root); many < 4093 || many > 4096 {
				t.Fatal(many)
			}
			wantError(t, made(root, cells...), api.OK)
		}
	}
}

// The most names that a plan has room for: four quantifiers in one another, and three of these beside one another in each choice.
func TestE2MostNames(t *testing.T) {
	many := 0
	four := func() api.Node {
		return chain(4, boolean(1), func(n api.Node) api.Node {
			many++
			return quant(api.QuantAll, setName("n"+strconv.Itoa(many)), n)
		})
	}
	root := four()
	for countParts(root) <= 4096-19 {
		root = of(api.EIf, root, four(), four())
	}
	c, err := emitted(t, made(root))
	if err != api.OK || len(c.Names) != many || many < 1700 || many > 2000 {
		t.Errorf("%d: %d names of %d", err, len(c.Names), many)
	}
}

// As many constants as a plan has room for; places in code are no numbers of bits.
func TestE2MostConsts(t *testing.T) {
	root := integer(math.MinInt)
	for i := range 1023 {
		root = of(api.EAdd, of(api.EMul, root, integer(-i)), integer(math.MaxInt-i))
	}
	c, err := emitted(t, made(root))
	if err != api.OK || len(c.Consts) != 2047 {
		t.Errorf("%d: %d constants", err, len(c.Consts))
	}
}

// As many cells as there may be, one in another and one beside another, of each level and kind.
func TestE2MostCells(t *testing.T) {
	body := func(n api.Node) api.Node { return sum(setName("few"), n) }
	for level := range 5 {
		levels := make([]int, 256)
		inner, beside := integer(7), integer(7)
		for i := range levels {
			levels[i] = level
			inner = cell(i, inner)
			beside = of(api.EAdd, beside, cell(255-i, integer(i)))
		}
		for _, n := range []api.Node{inner, beside} {
			c, err := emitted(t, made(chain(level, n, body), levels...))
			if clears := countOps(c, api.OpClear); err != api.OK || clears != 256*truth(level > 0) || countOps(c, api.OpFetch) != 256 || countOps(c, api.OpKeep) != 256 {
				t.Errorf("%d: %d, %d clears", level, err, clears)
			}
		}
	}
}

func countOps(c api.Code, which int) int {
	many := 0
	for _, word := range c.Words {
		op, _, _ := fields(word)
		many += truth(op == which)
	}
	return many
}

// holdWorth holds that a plan's code is worth what a plan is, in some graphs: how often there was a worth, and how often a fault.
func holdWorth(t *testing.T, meant, p api.Plan, graphs ...*store.Store) (worths, faults int) {
	t.Helper()
	c, err := emitted(t, p)
	if err != api.OK {
		t.Fatalf("%d of %s", err, told(p))
	}
	for _, s := range graphs {
		want, _ := plan.Ask(meant, s, 50000)
		if want.Fault == api.FaultFuel {
			continue
		}
		if got := ran(c, s, 10000000); got != want {
			t.Fatalf("%s: %v; wanted %v of %s", brief(c), got, want, told(meant))
		}
		worths += truth(want.Fault == 0)
		faults += truth(want.Fault != 0)
	}
	return worths, faults
}

// DOC.md's examples of the whole.
func TestE2TheWhole(t *testing.T) {
	s := docGraph(t)
	is := func(n int) api.Answer { return api.Answer{Kind: api.KindInt, N: n} }
	no, yes := api.Answer{Kind: api.KindBool}, api.Answer{Kind: api.KindBool, N: 1}
	empty, none := api.Answer{Fault: api.FaultEmpty}, api.Answer{Fault: api.FaultVertex}
	for query, want := range map[string]api.Answer{
		"connected(@1, @4)": yes, "connected(@1, @5)": no, "connected(@1, @9)": none, "block(@1, @3)": yes, "block(@3, @4)": no, "bottleneck(@1, @3)": is(7), "bottleneck(@1, @5)": empty, "bottleneck(@1, @1)": empty,
		"size(@2)": is(4), "total(@2)": is(100), "least(@5)": is(50), "rep(@4)": {Kind: api.KindVertex, N: 1}, "size(@1) + size(@2) + size(@3)": is(12),
		"all v in few: connected(v, @1)": no, "count v in few: connected(v, @1)": is(2), "max v in vertices: degree(v)": is(3), "min v in vertices: -degree(v)": is(-3), "min v in {}: value(v)": empty, "sum v in nobody: 1": {Fault: api.FaultSet},
		"9223372036854775807 + 1": {Fault: api.FaultOverflow}, "1 / 0": {Fault: api.FaultZero}, "true or 1 / 0 = 1": yes, "false and 1 / 0 = 1": no, "if true then 1 else 1 / 0": is(1),
		"some v in around(@1): all w in around(v): v = w or bottleneck(v, w) < 8": yes, "some v in around(@1): all w in around(v): bottleneck(v, w) < 8 or v = w": empty,
	} {
		p := planOf(t, query)
		c, err := emitted(t, p)
		if got := ran(c, s, 1000); err != api.OK || got != want {
			t.Errorf("%s: %d, %v; wanted %v", query, err, got, want)
		}
		holdWorth(t, p, p, s)
	}
}

// What is emitted of a plan is worth what the plan is, faults too.
func TestE2Worth(t *testing.T) {
	next := numbers()
	graphs := []*store.Store{docGraph(t), newStore(t)}
	for range 40 {
		graphs = append(graphs, drawnGraph(t, next))
	}
	worths, faults := 0, 0
	for _, d := range []*drawn{drawing(0, 0, 0), drawing(20, 0, 0), drawing(35, 10, 0), drawing(20, 40, 0)} {
		for i := range 1500 {
			p := d.plan(1+i%3, 3+i%6)
			some := next(len(graphs) - 1)
			w, f := holdWorth(t, p, p, graphs[some:some+2]...)
			worths, faults = worths+w, faults+f
		}
	}
	if worths < 5000 || faults < 2000 {
		t.Errorf("%d, %d", worths, faults)
	}
}

// All passes in whatever order: the code is worth what the query means.
func TestE2Passes(t *testing.T) {
	passes := []func(api.Plan) (api.Plan, api.Errno){fold.Fold, share.Reps, hoist.Hoist, share.Share}
	next := numbers()
	graphs := []*store.Store{docGraph(t)}
	for range 10 {
		graphs = append(graphs, drawnGraph(t, next))
	}
	for _, query := range []string{
		"sum v in vertices: size(@1) + size(v) * 1 + (count w in around(v): connected(v, w) or connected(w, @1))",
		"all v in vertices: some w in vertices: connected(v, @1) and value(w) = value(v) or 1 + 1 = 3",
		"max v in few: sum w in around(v): value(w) - value(v) * (min x in many: degree(x) + value(v))",
		"count v in {@1, @2, rep(@3)}: not (all w in even: block(v, w) = connected(v, w)) and size(v) = size(v)",
		"if some v in few: connected(v, @1) and value(v) != value(@1) then bottleneck(@1, @2) + bottleneck(@1, @2) else -total(rep(@3))",
		"rep(if (sum v in vertices: value(v) * value(v)) < 100 then @1 else rep(@2))",
	} {
		p := planOf(t, query)
		for order := range 256 {
			q := p
			for i := order; i > 0; i /= 4 {
				q, _ = passes[i%4](q)
			}
			holdWorth(t, p, q, graphs...)
		}
	}
}

// What was asked ahead, right or wrong, tells in no later answer.
func TestE2NothingIsKept(t *testing.T) {
	p := made(sum(setName("few"), of(api.EAdd, cell(0, integer(7)), cell(1, integer(8)))), 0, 1)
	want, _ := emit.Emit(p)
	for range 3 {
		emit.Emit(api.Plan{})
		emit.Emit(made(leaning(1500)))
		emit.Emit(made(quant(api.QuantAll, setName("many"), of(api.EEq, cell(0, integer(9)), integer(10))), 1))
		if got, err := emit.Emit(p); err != api.OK || !sameCode(got, want) {
			t.Errorf("%d, %s", err, brief(got))
		}
	}
}
