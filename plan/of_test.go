package plan_test

import (
	"reflect"
	"slices"
	"strconv"
	"testing"

	"isthmus/api"
	"isthmus/plan"
	"isthmus/syntax"
	"isthmus/typing"
)

// wantPlan holds Of of a text to a root.
func wantPlan(t *testing.T, s string, root api.Node) {
	t.Helper()
	p := planOf(t, s)
	if spelled(p.Root) != spelled(root) || len(p.Cells) != 0 {
		t.Errorf("Of(%q): %s", s, told(p))
	}
	if !plan.Same(p, made(root)) {
		t.Errorf("Of(%q) is not the same as %s", s, told(made(root)))
	}
}

func TestL1Examples(t *testing.T) {
	inner := quant(api.QuantSome, of(api.ESetAround, variable(0)), of(api.EEq, variable(0), variable(1)))
	wantPlan(t, "all v in vertices: some w in around(v): v = w", quant(api.QuantAll, all, inner))
	wantPlan(t, "count v in few: connected(v, @1)", quant(api.QuantCount, setName("few"), call(api.CallConnected, variable(0), vertex(1))))
	wantPlan(t, "sum v in few: size(@1)", quant(api.QuantSum, setName("few"), call(api.CallSize, vertex(1))))
}

// Each kind of part, in the document's words.
func TestL1EachPart(t *testing.T) {
	one, two, yes, no, u, v := integer(1), integer(2), boolean(1), boolean(0), vertex(3), vertex(4)
	wantPlan(t, "0", integer(0))
	wantPlan(t, "9223372036854775807", integer(1<<63-1))
	wantPlan(t, "true", yes)
	wantPlan(t, "false", no)
	wantPlan(t, "@0", vertex(0))
	wantPlan(t, "@9223372036854775807", vertex(1<<63-1))
	wantPlan(t, "-1", of(api.ENeg, one))
	wantPlan(t, "not true", of(api.ENot, yes))
	for sign, kind := range map[string]int{"+": api.EAdd, "-": api.ESub, "*": api.EMul, "/": api.EDiv, "%": api.ERem, "=": api.EEq, "!=": api.ENe, "<": api.ELess, "<=": api.EAtMost} {
		wantPlan(t, "1 "+sign+" 2", of(kind, one, two))
	}
	wantPlan(t, "true and false", of(api.EAnd, yes, no))
	wantPlan(t, "true or false", of(api.EOr, yes, no))
	wantPlan(t, "if true then 1 else 2", of(api.EIf, yes, one, two))
	for word, n := range map[string]int{"connected": api.CallConnected, "block": api.CallBlock, "bottleneck": api.CallBottleneck} {
		wantPlan(t, word+"(@3, @4)", call(n, u, v))
	}
	for word, n := range map[string]int{"size": api.CallSize, "total": api.CallTotal, "least": api.CallLeast, "most": api.CallMost, "value": api.CallValue, "degree": api.CallDegree, "rep": api.CallRep} {
		wantPlan(t, word+"(@3)", call(n, u))
	}
	for word, n := range map[string]int{"all": api.QuantAll, "some": api.QuantSome, "count": api.QuantCount} {
		wantPlan(t, word+" x in vertices: true", quant(n, all, yes))
	}
	for word, n := range map[string]int{"sum": api.QuantSum, "min": api.QuantMin, "max": api.QuantMax} {
		wantPlan(t, word+" x in vertices: 1", quant(n, all, one))
	}
	for text, set := range map[string]api.Node{"vertices": all, "x": setName("x"), "abcdefghij_1": setName("abcdefghij_1"), "around(@3)": of(api.ESetAround, u), "{}": of(api.ESetList), "{@3}": of(api.ESetList, u), "{@4, @3, @4}": of(api.ESetList, v, u, v)} {
		wantPlan(t, "all x in "+text+": true", quant(api.QuantAll, set, yes))
	}
}

// A variable has the number of the innermost quantifier of its name around it: a quantifier is not around its own set.
func TestL1Variables(t *testing.T) {
	eq := func(a, b int) api.Node { return of(api.EEq, variable(a), variable(b)) }
	every := func(set, body api.Node) api.Node { return quant(api.QuantAll, set, body) }
	around := func(n int) api.Node { return of(api.ESetAround, variable(n)) }
	wantPlan(t, "all v in v: v = v", every(setName("v"), eq(0, 0)))
	wantPlan(t, "all v in x: all w in x: w = v", every(setName("x"), every(setName("x"), eq(1, 0))))
	wantPlan(t, "all v in x: all v in around(v): v = v", every(setName("x"), every(around(0), eq(1, 1))))
	wantPlan(t, "all v in vertices: all w in vertices: all v in around(v): w = v", every(all, every(all, every(around(0), eq(1, 2)))))
	wantPlan(t, "all a in vertices: all b in vertices: all c in vertices: all d in vertices: b = c and a = d", every(all, every(all, every(all, every(all, of(api.EAnd, eq(1, 2), eq(0, 3)))))))
	wantPlan(t, "all v in vertices: (all w in vertices: v = w) and (all u in vertices: u = v)", every(all, of(api.EAnd, every(all, eq(0, 1)), every(all, eq(1, 0)))))
	wantPlan(t, "all v in vertices: (all v in vertices: v = v) and v = v", every(all, of(api.EAnd, every(all, eq(1, 1)), eq(0, 0))))
	choice := of(api.EIf, every(all, eq(0, 0)), vertex(1), vertex(2))
	wantPlan(t, "all v in around(if all w in vertices: w = w then @1 else @2): v = v", every(of(api.ESetAround, choice), eq(0, 0)))
	choice = of(api.EIf, every(all, eq(0, 1)), variable(0), vertex(2))
	wantPlan(t, "all v in vertices: all w in {if all w in vertices: v = w then v else @2}: v = w", every(all, every(of(api.ESetList, choice), eq(0, 1))))
}

// named is the tree of a node, whose quantifiers have names that are picked by how many are around them.
func named(n api.Node, bound []string, pick func(around int) string) api.Expr {
	e := api.Expr{Kind: n.Kind, N: n.N, Name: n.Name, At: len(bound) + 7}
	switch n.Kind {
	case api.EVar:
		return api.Expr{Kind: api.EName, Name: bound[n.N]}
	case api.EInt:
		e.N = max(n.N, 0)
	case api.EQuant:
		e.Name = pick(len(bound))
	}
	for i, kid := range n.Kids {
		inner := bound
		if n.Kind == api.EQuant && i == 1 {
			inner = append(slices.Clone(bound), e.Name)
		}
		e.Kids = append(e.Kids, named(kid, inner, pick))
	}
	return e
}

// unnamed is a node's, whose numbers are such as a query may have.
func unnamed(n api.Node) api.Node {
	n = copied(n)
	each(&n, func(x *api.Node) {
		if x.Kind == api.EInt {
			x.N = max(x.N, 0)
		}
	})
	return n
}

// A plan whose quantifiers are given unlike names is that of its tree again.
func TestL1DrawnPlans(t *testing.T) {
	d := drawing(0, 0, 0)
	many, quants := 0, 0
	for i := range 6000 {
		p := d.plan(1+i%3, 8)
		e := named(p.Root, nil, func(around int) string { return "v" + strconv.Itoa(around) })
		got, err := plan.Of(e)
		if _, wrong, _ := typing.Check(e); wrong != api.OK {
			wantNone(t, e)
			continue
		}
		if want := unnamed(p.Root); err != api.OK || spelled(got.Root) != spelled(want) || len(got.Cells) != 0 {
			t.Fatalf("%d, %s; wanted %s", err, told(got), spelled(want))
		}
		many++
		for _, x := range mustPlaces(got.Root) {
			if within, _ := x.quantifiers(); within > 1 && x.part.Kind == api.EVar {
				quants++
			}
		}
	}
	if many < 4000 || quants < 4000 {
		t.Errorf("%d plans, %d variables", many, quants)
	}
}

func mustPlaces(n api.Node) []*place {
	places, _ := placesOf(n)
	return places
}

// Names that stand for several quantifiers: each variable is held to the nearest one of its name above it.
func TestL1DrawnNames(t *testing.T) {
	next := numbers()
	d := drawing(0, 0, 0)
	shadowed := 0
	for i := range 4000 {
		e := named(d.plan(1+i%3, 8).Root, nil, func(int) string { return []string{"v", "w"}[next(2)] })
		p, err := plan.Of(e)
		if err != api.OK {
			continue
		}
		shadowed += holdNames(t, e, p.Root, nil)
	}
	if shadowed < 500 {
		t.Errorf("%d", shadowed)
	}
}

// holdNames goes through a tree and its plan side by side; how many variables had two quantifiers of their name around them.
func holdNames(t *testing.T, e api.Expr, n api.Node, bound []string) int {
	t.Helper()
	if e.Kind == api.EName {
		same := 0
		for i, name := range bound {
			if name == e.Name {
				same++
				if i > n.N {
					t.Fatalf("%s is %d in %v", e.Name, n.N, bound)
				}
			}
		}
		if n.Kind != api.EVar || bound[n.N] != e.Name || n.Name != "" || len(n.Kids) > 0 {
			t.Fatalf("%s is %d in %v", e.Name, n.N, bound)
		}
		return max(same-1, 0)
	}
	many := 0
	for i := range e.Kids {
		inner := bound
		if e.Kind == api.EQuant && i == 1 {
			inner = append(slices.Clone(bound), e.Name)
		}
		many += holdNames(t, e.Kids[i], n.Kids[i], inner)
	}
	return many
}

func wantNone(t *testing.T, e api.Expr) {
	t.Helper()
	p, err := plan.Of(e)
	if err != api.ErrPlanForm || p.Root.Kind != 0 || p.Root.N != 0 || p.Root.Name != "" || len(p.Root.Kids) != 0 || len(p.Cells) != 0 {
		t.Errorf("Of a wrong tree: %d, %s", err, told(p))
	}
}

// What is not typed, or is no right tree, has no plan.
func TestL1WrongTrees(t *testing.T) {
	for _, s := range []string{
		"1 + true", "v", "all v in vertices: v = w", "sum v in {v}: 1", "connected(@1, 2)", "if 1 then 2 else 3", "if true then 1 else @1", "not 1", "-true", "all v in vertices: 1", "sum v in vertices: true",
		"all v in around(1): true", "all v in {@1, 2}: true", "(all v in vertices: true) and v = @1", "1 = true", "@1 < @2",
	} {
		wantNone(t, parsed(t, s))
	}
	for _, e := range []api.Expr{
		{}, {Kind: api.ESetAll}, {Kind: api.EVar}, {Kind: api.ECell, Kids: []api.Expr{{Kind: api.EInt}}}, {Kind: api.EInt, N: -1}, {Kind: api.EBool, N: 2}, {Kind: api.EVertex, N: -1}, {Kind: api.EInt, Name: "v"}, {Kind: api.ENeg}, {Kind: 27}, {Kind: -1},
		{Kind: api.ECall, N: 11, Kids: []api.Expr{{Kind: api.EVertex}}}, {Kind: api.EQuant, N: api.QuantAll, Kids: []api.Expr{{Kind: api.ESetAll}, {Kind: api.EBool}}}, {Kind: api.EName, Name: "in"},
	} {
		wantNone(t, e)
	}
	kids := make([]api.Expr, 1)
	kids[0] = api.Expr{Kind: api.ENeg, Kids: kids}
	wantNone(t, kids[0])
	wide := api.Expr{Kind: api.EInt}
	for range 60 {
		wide = api.Expr{Kind: api.EAdd, Kids: []api.Expr{wide, wide}}
	}
	wantNone(t, wide)
}

// A tree is only looked at; and what comes out is memory of its own, spare room too.
func TestL1Memory(t *testing.T) {
	d := drawing(0, 0, 0)
	for i := range 600 {
		e := named(d.plan(1+i%3, 5).Root, nil, func(around int) string { return "v" + strconv.Itoa(around) })
		grow(&e)
		before := spreadTree(e)
		p, err := plan.Of(e)
		if !reflect.DeepEqual(before, spreadTree(e)) {
			t.Fatal("a tree was written into")
		}
		if err != api.OK {
			continue
		}
		want := spelled(p.Root)
		again, _ := plan.Of(e)
		scribble(&p.Root)
		if got := spelled(again.Root); got != want || !reflect.DeepEqual(before, spreadTree(e)) {
			t.Fatalf("%s was written into, and is %s", want, got)
		}
		if third, _ := plan.Of(e); spelled(third.Root) != want {
			t.Fatalf("%s and then %s", want, spelled(third.Root))
		}
	}
}

// grow gives all lists of kids some room, with something in it.
func grow(e *api.Expr) {
	for i := range e.Kids {
		grow(&e.Kids[i])
	}
	e.Kids = append(make([]api.Expr, 0, len(e.Kids)+2), e.Kids...)
	spare := e.Kids[len(e.Kids):cap(e.Kids)]
	for i := range spare {
		spare[i] = api.Expr{Kind: -5, At: 77}
	}
}

// spreadTree is a copy of a tree that has what stands behind the lengths of its lists too.
func spreadTree(e api.Expr) api.Expr {
	var kids []api.Expr
	for _, kid := range e.Kids[:cap(e.Kids)] {
		kids = append(kids, spreadTree(kid))
	}
	e.Kids = kids
	return e
}

// scribble writes into all lists that a node has, and behind them; a list that was written into already shares its memory with another one.
func scribble(n *api.Node) {
	for i := range n.Kids {
		scribble(&n.Kids[i])
	}
	all := n.Kids[:cap(n.Kids)]
	for i := range all {
		if all[i].Kind == -9 {
			panic("two lists share memory")
		}
		all[i] = api.Node{Kind: -9}
	}
}

// The greatest queries that there are have plans that are right.
func TestL1GreatTrees(t *testing.T) {
	sum := api.Expr{Kind: api.EInt, N: 10}
	for range 499 {
		sum = api.Expr{Kind: api.EAdd, Kids: []api.Expr{sum, {Kind: api.EInt, N: 1}}}
	}
	if text, err := syntax.Print(sum); err != api.OK || len(text) != 1998 {
		t.Fatal(len(text), err)
	}
	p, err := plan.Of(sum)
	if err != api.OK || countParts(p.Root) != 999 || plan.Kind(p) != api.KindInt {
		t.Errorf("%d, %d parts", err, countParts(p.Root))
	}
	wantNone(t, api.Expr{Kind: api.EAdd, Kids: []api.Expr{sum, {Kind: api.EInt, N: 1}}})
	list := api.Expr{Kind: api.ESetList}
	for range 400 {
		list.Kids = append(list.Kids, api.Expr{Kind: api.EVertex, N: 1})
	}
	p, err = plan.Of(api.Expr{Kind: api.EQuant, N: api.QuantCount, Name: "v", Kids: []api.Expr{list, {Kind: api.EBool, N: 1}}})
	if err != api.OK || countParts(p.Root) != 403 || !plan.Right(p) {
		t.Errorf("%d, %d parts", err, countParts(p.Root))
	}
}
