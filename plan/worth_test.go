package plan_test

import (
	"math/big"
	"slices"
	"testing"

	"isthmus/api"
	"isthmus/plan"
	"isthmus/store"
)

// fault is what a plain asker gives up with.
type fault int

// asker reckons the worth of a plan by the chapter's words, out of what a store lists.
type asker struct {
	facts
	levels []int
	cells  map[int]int // the full ones
	budget int
	asked  []api.Node
}

func newAsker(p api.Plan, f facts, budget int) *asker {
	return &asker{facts: f, levels: p.Cells, cells: map[int]int{}, budget: budget}
}

// plainAsk is what Ask answers of a right plan.
func plainAsk(p api.Plan, f facts, budget int) (answer api.Answer, asked []api.Node) {
	a := newAsker(p, f, budget)
	defer func() {
		if r := recover(); r != nil {
			answer, asked = api.Answer{Fault: int(r.(fault))}, a.asked
		}
	}()
	n := a.worth(p.Root, nil)
	return api.Answer{Kind: slices.Index(kindNames, plainKind(p.Root)), N: n}, a.asked
}

func (a *asker) ask(n api.Node) {
	if len(a.asked) == min(max(a.budget, 0), 1000000) {
		panic(fault(api.FaultFuel))
	}
	a.asked = append(a.asked, n)
}

func number(is bool) int {
	return map[bool]int{true: 1}[is]
}

// worth is that of a part where the quantifiers around it are at these vertices.
func (a *asker) worth(n api.Node, at []int) int {
	a.ask(n)
	kid := func(i int) int { return a.worth(n.Kids[i], at) }
	switch n.Kind {
	case api.EInt, api.EBool:
		return n.N
	case api.EVertex:
		if !a.has(n.N) {
			panic(fault(api.FaultVertex))
		}
		return n.N
	case api.EVar:
		return at[n.N]
	case api.EAnd:
		if kid(0) == 0 {
			return 0
		}
		return kid(1)
	case api.EOr:
		if kid(0) == 1 {
			return 1
		}
		return kid(1)
	case api.EIf:
		return kid(2 - kid(0))
	case api.EQuant:
		return a.quantified(n, at)
	case api.ECell:
		if _, full := a.cells[n.N]; !full {
			a.cells[n.N] = kid(0)
		}
		return a.cells[n.N]
	}
	var kids []int
	for i := range n.Kids {
		kids = append(kids, kid(i))
	}
	if n.Kind == api.ECall {
		return a.called(n.N, kids[0], kids[len(kids)-1])
	}
	return reckoned(n.Kind, kids[0], kids[len(kids)-1])
}

// reckoned is done with numbers without an end, and held to 64 bits then.
func reckoned(kind, left, right int) int {
	switch kind {
	case api.ENot:
		return number(left == 0)
	case api.EEq:
		return number(left == right)
	case api.ENe:
		return number(left != right)
	case api.ELess:
		return number(left < right)
	case api.EAtMost:
		return number(left <= right)
	}
	if (kind == api.EDiv || kind == api.ERem) && right == 0 {
		panic(fault(api.FaultZero))
	}
	x, y := big.NewInt(int64(left)), big.NewInt(int64(right))
	switch kind {
	case api.ENeg:
		x.Neg(x)
	case api.EAdd:
		x.Add(x, y)
	case api.ESub:
		x.Sub(x, y)
	case api.EMul:
		x.Mul(x, y)
	case api.EDiv:
		x.Quo(x, y)
	case api.ERem:
		x.Rem(x, y)
	}
	if !x.IsInt64() {
		panic(fault(api.FaultOverflow))
	}
	return int(x.Int64())
}

func (a *asker) called(which, u, v int) int {
	switch which {
	case api.CallConnected:
		return number(slices.Contains(reach(a.edges, u), v))
	case api.CallBlock:
		return number(a.block(u, v))
	case api.CallBottleneck:
		w, is := a.bottleneck(u, v)
		if !is {
			panic(fault(api.FaultEmpty))
		}
		return w
	case api.CallSize:
		return len(reach(a.edges, u))
	case api.CallTotal:
		sum := 0
		for _, x := range a.values(u) {
			sum += x
		}
		return sum
	case api.CallLeast:
		return a.values(u)[0]
	case api.CallMost:
		return slices.Max(a.values(u))
	case api.CallValue:
		return a.value(u)
	case api.CallDegree:
		return a.degree(u)
	}
	return reach(a.edges, u)[0]
}

func (a *asker) members(n api.Node, at []int) []int {
	a.ask(n)
	var ids []int
	switch n.Kind {
	case api.ESetAll:
		for _, v := range a.vertices {
			ids = append(ids, v.ID)
		}
	case api.ESetName:
		if _, is := a.sets[n.Name]; !is {
			panic(fault(api.FaultSet))
		}
		ids = append(ids, a.sets[n.Name]...)
	case api.ESetAround:
		ids = reach(a.edges, a.worth(n.Kids[0], at))
	case api.ESetList:
		for _, kid := range n.Kids {
			if id := a.worth(kid, at); !slices.Contains(ids, id) {
				ids = append(ids, id)
			}
		}
	}
	slices.Sort(ids)
	return ids
}

// quantified goes through a set; of all bodies but those behind the one that ends it there is a list then.
func (a *asker) quantified(n api.Node, at []int) int {
	var bodies []int
	sum := 0
	for _, id := range a.members(n.Kids[0], at) {
		for i, level := range a.levels {
			if level == len(at)+1 {
				delete(a.cells, i)
			}
		}
		body := a.worth(n.Kids[1], append(slices.Clone(at), id))
		bodies = append(bodies, body)
		if n.N == api.QuantAll && body == 0 || n.N == api.QuantSome && body == 1 {
			break
		}
		if n.N == api.QuantSum {
			sum = reckoned(api.EAdd, sum, body)
		}
	}
	switch n.N {
	case api.QuantAll:
		return number(!slices.Contains(bodies, 0))
	case api.QuantSome:
		return number(slices.Contains(bodies, 1))
	case api.QuantCount:
		return len(slices.DeleteFunc(bodies, func(b int) bool { return b == 0 }))
	case api.QuantSum:
		return sum
	}
	if len(bodies) == 0 {
		panic(fault(api.FaultEmpty))
	}
	if n.N == api.QuantMin {
		return slices.Min(bodies)
	}
	return slices.Max(bodies)
}

// asked is what Ask answers, which must be what the plain way answers.
func asked(t *testing.T, p api.Plan, s *store.Store, budget int) (api.Answer, int) {
	t.Helper()
	want, parts := api.Answer{}, []api.Node(nil)
	if plainRight(p) {
		want, parts = plainAsk(p, factsOf(s), budget)
	}
	a, n := plan.Ask(p, s, budget)
	if a != want || n != len(parts) {
		t.Fatalf("Ask with %d: %v, %d; wanted %v, %d: %s", budget, a, n, want, len(parts), told(p))
	}
	return a, n
}

// wantAsked holds both ways to what is said of a plan.
func wantAsked(t *testing.T, p api.Plan, s *store.Store, budget int, want api.Answer, many int) {
	t.Helper()
	if a, n := asked(t, p, s, budget); a != want || n != many {
		t.Errorf("Ask with %d: %v, %d; wanted %v, %d: %s", budget, a, n, want, many, told(p))
	}
}

func isInt(n int) api.Answer { return api.Answer{Kind: api.KindInt, N: n} }

func isBool(n int) api.Answer { return api.Answer{Kind: api.KindBool, N: n} }

func isVertex(n int) api.Answer { return api.Answer{Kind: api.KindVertex, N: n} }

func isFault(n int) api.Answer { return api.Answer{Fault: n} }
