package share_test

import (
	"fmt"
	"math/bits"
	"testing"

	"isthmus/api"
	"isthmus/plan"
	"isthmus/share"
)

func TestZ2Examples(t *testing.T) {
	wantText(t, shares, "size(@1) + size(@1) * size(@2)", "[0 size(@1)] + [0 size(@1)] * size(@2) [0]")
	wantText(t, shares, "sum v in vertices: value(v) * value(v)", "(sum vertices: [0 value(v0)] * [0 value(v0)]) [1]")
	wantText(t, shares, "size(rep(@1)) + size(rep(@1))", "[0 size(rep(@1))] + [0 size(rep(@1))] [0]")
	// Both sizes hang on unlike many; the values in them stand in two and in one rounds, and hang on one each.
	wantText(t, shares, "size(if some w in vertices: value(w) = 1 then @1 else @2) + (sum v in vertices: size(if some w in vertices: value(v) = 1 then @1 else @2))",
		"size(if (some vertices: [0 value(v0)] = 1) then @1 else @2) + (sum vertices: size(if (some vertices: [0 value(v0)] = 1) then @1 else @2)) [1]")
}

// Every call that stands twice is kept, and nothing else that does.
func TestZ2Kinds(t *testing.T) {
	for name, args := range map[string]string{"connected": "@1, @2", "block": "@1, @2", "bottleneck": "@1, @2", "size": "@1", "total": "@1", "least": "@1", "most": "@1", "value": "@1", "degree": "@1", "rep": "@1"} {
		c := fmt.Sprintf("%s(%s)", name, args)
		wantText(t, shares, c+" = "+c, fmt.Sprintf("[0 %s] = [0 %s] [0]", c, c))
		wantText(t, shares, "all v in few: "+c+" = "+c, fmt.Sprintf("(all few: [0 %s] = [0 %s]) [0]", c, c))
		wantBare(t, shares, c)
	}
	for _, query := range []string{
		"1 + 1", "@1 = @1", "not true or not true", "1 + 2 = 1 + 2", "(all v in few: true) and (all v in few: true)", "(sum v in vertices: 1) + (sum v in vertices: 1)", "if true then 1 else 1", "sum v in {@1, @1}: 1", "size(@1) + size(@2)", "size(@1) + total(@1)", "connected(@1, @2) and connected(@2, @1)", "connected(@1, @2) and block(@1, @2)", "connected(@1, @1)", "size(@1) + value(rep(@1))", "rep(rep(@1)) = @1", "rep(rep(rep(@1))) = @1",
		"all v in few: size(v) = size(@1)", "all v in few: some w in few: size(v) = size(w)", "all v in few: some w in few: connected(v, w) and connected(w, v)",
	} {
		wantBare(t, shares, query)
	}
	wantText(t, shares, "size(@1) + size(@1) + size(@1) + size(@1)", "[0 size(@1)] + [0 size(@1)] + [0 size(@1)] + [0 size(@1)] [0]")
	wantText(t, shares, "connected(@1, @2) and connected(@2, @1) or connected(@1, @2)", "[0 connected(@1, @2)] and connected(@2, @1) or [0 connected(@1, @2)] [0]")
}

// Two calls are the same, if they are so part by part: one part that is not makes them unlike, wherever it stands.
func TestZ2TheSame(t *testing.T) {
	few, many := setName("few"), setName("many")
	whole := func(change int) api.Node {
		number := func(i, a, b int) int {
			if i == change {
				return b
			}
			return a
		}
		list := of(api.ESetList, vertex(number(1, 1, 2)), vertex(3))
		switch change {
		case 2:
			list.Kids = append(list.Kids, vertex(3))
		case 3:
			list.Kids = list.Kids[:1]
		case 4:
			list.Kids[0], list.Kids[1] = list.Kids[1], list.Kids[0]
		}
		set := few
		if change == 5 {
			set = many
		}
		sum := of(number(6, api.EAdd, api.ESub), integer(number(7, 7, 8)), of(api.ENeg, integer(number(8, 5, -5))))
		inner := quant(number(9, api.QuantSum, api.QuantMax), list, of(api.EMul, sum, call(number(10, api.CallValue, api.CallDegree), variable(number(11, 1, 0)))))
		is := quant(number(12, api.QuantSome, api.QuantAll), set, of(number(13, api.ELess, api.EAtMost), inner, integer(number(14, 3, 4))))
		return call(number(15, api.CallSize, api.CallTotal), of(api.EIf, is, vertex(number(16, 1, 2)), api.Node{Kind: number(17, api.ECall, api.EIf), N: number(17, api.CallRep, 0), Kids: []api.Node{vertex(2), boolean(1), vertex(2), vertex(3)}[number(17, 0, 1):number(17, 1, 4)]}))
	}
	for a := range 18 {
		for b := range 18 {
			got, is := passed(t, shares, made(of(api.EAdd, whole(a), whole(b))))
			kept := got.Root.Kids[0].Kind == api.ECell && got.Root.Kids[1].Kind == api.ECell
			if !is || kept != (a == b) {
				t.Errorf("%d, %d: %s", a, b, text(got.Root))
			}
		}
	}
	// The same parts, otherwise one in another.
	rep := func(n api.Node) api.Node { return call(api.CallRep, n) }
	sets := []api.Node{of(api.ESetList), of(api.ESetList, vertex(1)), of(api.ESetList, vertex(1), vertex(1)), of(api.ESetList, rep(vertex(1))), of(api.ESetList, rep(vertex(1)), vertex(1)), of(api.ESetList, vertex(1), rep(vertex(1))), of(api.ESetList, rep(rep(vertex(1)))), of(api.ESetAround, vertex(1)), of(api.ESetAround, rep(vertex(1))), all, few, many}
	counted := func(set api.Node) api.Node {
		return call(api.CallSize, of(api.EIf, quant(api.QuantAll, set, boolean(1)), vertex(1), vertex(2)))
	}
	for i, a := range sets {
		for j, b := range sets {
			got, is := passed(t, shares, made(of(api.EAdd, counted(a), counted(b))))
			if kept := got.Root.Kids[0].Kind == api.ECell; !is || kept != (i == j) {
				t.Errorf("%s", text(got.Root))
			}
		}
	}
}

// On how many of the quantifiers around it a call hangs, of none to four: that is its Cells.
func TestZ2Hangs(t *testing.T) {
	head := "sum a in few: sum b in around(a): sum c in around(b): sum d in around(c): "
	opened := "(sum few: (sum around(v0): (sum around(v1): (sum around(v2): "
	for args, hangs := range map[[2]string]int{{"@1, @2", "@1, @2"}: 0, {"a, @2", "v0, @2"}: 1, {"@1, a", "@1, v0"}: 1, {"b, @1", "v1, @1"}: 2, {"b, a", "v1, v0"}: 2, {"a, c", "v0, v2"}: 3, {"c, @7", "v2, @7"}: 3, {"d, a", "v3, v0"}: 4, {"@3, d", "@3, v3"}: 4, {"d, d", "v3, v3"}: 4} {
		query := fmt.Sprintf("%sbottleneck(%s) + bottleneck(%s)", head, args[0], args[0])
		wantText(t, shares, query, fmt.Sprintf("%s[0 bottleneck(%s)] + [0 bottleneck(%s)])))) [%d]", opened, args[1], args[1], hangs))
	}
	for _, x := range [][2]string{
		// In unlike many rounds, and in rounds beside one another.
		{"size(@1) + (sum v in few: size(@1))", "[0 size(@1)] + (sum few: [0 size(@1)]) [0]"},
		{"(sum v in few: size(@1)) + size(@1)", "(sum few: [0 size(@1)]) + [0 size(@1)] [0]"},
		{"(sum v in few: value(v)) + (sum w in few: value(w))", "(sum few: [0 value(v0)]) + (sum few: [0 value(v0)]) [1]"},
		{"(sum v in few: value(v)) + (sum v in vertices: sum w in few: value(v))", "(sum few: [0 value(v0)]) + (sum vertices: (sum few: [0 value(v0)])) [1]"},
		{"(sum v in few: value(v)) + (sum v in vertices: sum w in few: value(w))", "(sum few: value(v0)) + (sum vertices: (sum few: value(v1))) []"},
		{"sum v in few: (sum w in around(v): value(w)) + (sum w in few: value(w) + value(v))", "(sum few: (sum around(v0): [0 value(v1)]) + (sum few: [0 value(v1)] + value(v0))) [2]"},
		// In a set, around which its own quantifier is not.
		{"sum v in {rep(@1), rep(@1)}: 1", "(sum {[0 rep(@1)], [0 rep(@1)]}: 1) [0]"},
		{"sum v in around(rep(@1)): value(rep(@1))", "(sum around([0 rep(@1)]): value([0 rep(@1)])) [0]"},
		{"sum v in few: sum w in around(rep(v)): value(rep(v))", "(sum few: (sum around([0 rep(v0)]): value([0 rep(v0)]))) [1]"},
		{"sum v in {if some w in few: value(w) = 1 then @1 else @2}: value(v)", "(sum {if (some few: [0 value(v0)] = 1) then @1 else @2}: [0 value(v0)]) [1]"},
		// Quantifiers within a call are not around it.
		{"sum v in few: size(if some w in few: w = @1 then @1 else @2) + size(if some w in few: w = @1 then @1 else @2)", "(sum few: [0 size(if (some few: v1 = @1) then @1 else @2)] + [0 size(if (some few: v1 = @1) then @1 else @2)]) [0]"},
		{"sum v in few: size(if some w in few: w = v then @1 else @2) + size(if some w in few: w = v then @1 else @2)", "(sum few: [0 size(if (some few: v1 = v0) then @1 else @2)] + [0 size(if (some few: v1 = v0) then @1 else @2)]) [1]"},
		{"size(if some w in few: w = @1 then @1 else @2) + (sum v in few: size(if some w in few: w = @1 then @1 else @2))", "size(if (some few: v0 = @1) then @1 else @2) + (sum few: size(if (some few: v1 = @1) then @1 else @2)) []"},
	} {
		wantText(t, shares, x[0], x[1])
	}
}

// Calls in unlike many rounds that are the same and hang on as many are alike, by the chapter's words, though a variable that is bound within them is w in one and x in the other.
func TestZ2BoundWithin(t *testing.T) {
	size := "size(if some w in few: some x in vertices: value(%s) = 20 then @1 else @5)"
	p := planOf(t, fmt.Sprintf(size, "x")+" + (sum v in vertices: "+fmt.Sprintf(size, "w")+")")
	one := p.Root.Kids[0]
	wantPassed(t, shares, p, made(of(api.EAdd, cell(0, one), quant(api.QuantSum, all, cell(0, one))), 0))
	if !isMixed(p) {
		t.Error("is mixed")
	}
	for _, query := range []string{size + " + (sum v in vertices: " + size + ")", size + " + " + size} {
		if isMixed(planOf(t, fmt.Sprintf(query, "x", "x"))) {
			t.Errorf("%q is not mixed", query)
		}
	}
}

// Each part is gone through ahead of its kids, those from the left; so cells are numbered.
func TestZ2Order(t *testing.T) {
	for _, x := range [][2]string{
		{"size(@1) + size(@2) + size(@1) + size(@2)", "[0 size(@1)] + [1 size(@2)] + [0 size(@1)] + [1 size(@2)] [0 0]"},
		{"size(@2) + size(@1) + (size(@1) + size(@2))", "[0 size(@2)] + [1 size(@1)] + [1 size(@1)] + [0 size(@2)] [0 0]"},
		{"if size(@1) = 1 then size(@2) * size(@3) else size(@3) - size(@2) - size(@1)", "if [0 size(@1)] = 1 then [1 size(@2)] * [2 size(@3)] else [2 size(@3)] - [1 size(@2)] - [0 size(@1)] [0 0 0]"},
		{"sum v in around(rep(@2)): value(v) + size(@1) + value(v) * size(@1) * value(rep(@2))", "(sum around([0 rep(@2)]): [1 value(v0)] + [2 size(@1)] + [1 value(v0)] * [2 size(@1)] * value([0 rep(@2)])) [0 1 0]"},
		{"sum v in few: (sum w in few: value(w) + value(v)) + (sum w in few: value(w) + value(v))", "(sum few: (sum few: [0 value(v1)] + [1 value(v0)]) + (sum few: [0 value(v1)] + [1 value(v0)])) [2 1]"},
		// A call that stays is ahead of those in it.
		{"bottleneck(rep(@2), rep(@1)) + value(rep(@1)) + size(rep(@2))", "bottleneck([0 rep(@2)], [1 rep(@1)]) + value([1 rep(@1)]) + size([0 rep(@2)]) [0 0]"},
	} {
		wantText(t, shares, x[0], x[1])
	}
}

// What is in a call that is kept stays, but counts: a call out of it is kept, if there is another one in it.
func TestZ2WithinCalls(t *testing.T) {
	for _, x := range [][2]string{
		{"size(rep(@1)) + size(rep(@1)) + value(rep(@1))", "[0 size(rep(@1))] + [0 size(rep(@1))] + value([1 rep(@1)]) [0 0]"},
		{"value(rep(@1)) + size(rep(@1)) + size(rep(@1))", "value([0 rep(@1)]) + [1 size(rep(@1))] + [1 size(rep(@1))] [0 0]"},
		{"size(rep(@1)) + value(rep(@1))", "size([0 rep(@1)]) + value([0 rep(@1)]) [0]"},
		{"size(rep(rep(@1))) + size(rep(rep(@1))) + value(rep(@1))", "[0 size(rep(rep(@1)))] + [0 size(rep(rep(@1)))] + value([1 rep(@1)]) [0 0]"},
		{"size(rep(rep(@1))) + size(rep(@1))", "size(rep([0 rep(@1)])) + size([0 rep(@1)]) [0]"},
		{"bottleneck(rep(@1), rep(@1))", "bottleneck([0 rep(@1)], [0 rep(@1)]) [0]"},
		{"bottleneck(rep(@1), rep(rep(@1)))", "bottleneck([0 rep(@1)], rep([0 rep(@1)])) [0]"},
		{"all v in few: (connected(rep(v), @1) = connected(rep(v), @1)) = block(rep(v), @1)", "(all few: [0 connected(rep(v0), @1)] = [0 connected(rep(v0), @1)] = block([1 rep(v0)], @1)) [1 1]"},
	} {
		wantText(t, shares, x[0], x[1])
	}
}

// Cells that are there stay, with all that is in them, which counts for nothing; new ones are numbered behind them, and behind those that no part has.
func TestZ2CellsThatAreThere(t *testing.T) {
	few, size, value := setName("few"), call(api.CallSize, vertex(1)), call(api.CallValue, variable(0))
	rep := call(api.CallRep, vertex(1))
	plus := func(a, b api.Node) api.Node { return of(api.EAdd, a, b) }
	sum := func(body api.Node) api.Node { return quant(api.QuantSum, few, body) }
	for _, p := range []api.Plan{
		made(plus(cell(0, size), size), 0), made(plus(size, cell(0, size)), 0), made(plus(cell(0, size), cell(0, size)), 0), made(plus(cell(0, size), cell(1, size)), 0, 0), made(cell(0, plus(size, size)), 0), made(plus(size, cell(0, plus(size, size))), 0), made(sum(plus(cell(0, value), value)), 1), made(cell(0, sum(plus(value, value))), 0), made(integer(1), 0, 1, 2, 3, 4),
		made(plus(call(api.CallSize, cell(0, rep)), call(api.CallSize, rep)), 0), made(plus(call(api.CallSize, cell(0, rep)), call(api.CallSize, cell(1, rep))), 0, 0), made(plus(cell(0, cell(1, size)), size), 0, 0),
	} {
		wantStays(t, shares, p)
	}
	kept := call(api.CallSize, cell(0, rep))
	for _, x := range []struct{ from, to api.Plan }{
		{made(plus(size, size), 0), made(plus(cell(1, size), cell(1, size)), 0, 0)},
		{made(plus(size, size), 3, 2, 1), made(plus(cell(3, size), cell(3, size)), 3, 2, 1, 0)},
		{made(plus(cell(0, size), plus(size, size)), 0), made(plus(cell(0, size), plus(cell(1, size), cell(1, size))), 0, 0)},
		{made(sum(plus(plus(value, cell(0, value)), value)), 1), made(sum(plus(plus(cell(1, value), cell(0, value)), cell(1, value))), 1, 1)},
		// Cells in calls that are kept.
		{made(plus(kept, kept), 0), made(plus(cell(1, kept), cell(1, kept)), 0, 0)},
		{made(sum(plus(kept, kept)), 1), made(sum(plus(cell(1, kept), cell(1, kept))), 1, 0)},
		{made(plus(kept, plus(call(api.CallSize, rep), call(api.CallValue, rep))), 0), made(plus(kept, plus(call(api.CallSize, cell(1, rep)), call(api.CallValue, cell(1, rep)))), 0, 0)},
	} {
		wantPassed(t, shares, x.from, x.to)
	}
}

// summed is the sum of so many parts.
func summed(many int, part func(i int) api.Node) api.Node {
	n := part(0)
	for i := 1; i < many; i++ {
		n = of(api.EAdd, n, part(i))
	}
	return n
}

// There are at most 256 cells, those that were there with them; a call that there is no room for stays, and is gone into.
func TestZ2MostCells(t *testing.T) {
	size := func(i int) api.Node { return call(api.CallSize, vertex(i)) }
	for _, had := range []int{0, 1, 100, 254, 255, 256} {
		for _, many := range []int{1, 2, 156, 157, 255, 256, 257, 300} {
			p := made(summed(2*many, func(i int) api.Node { return size(i % many) }), make([]int, had)...)
			want := summed(2*many, func(i int) api.Node {
				if had+i%many < 256 {
					return cell(had+i%many, size(i%many))
				}
				return size(i % many)
			})
			wantPassed(t, shares, p, made(want, make([]int, min(had+many, 256))...))
			if got, _ := share.Share(p); !plan.Right(got) {
				t.Errorf("%d, %d: not right", had, many)
			}
		}
	}
	rep := func(n api.Node) api.Node { return call(api.CallRep, n) }
	large := call(api.CallSize, rep(vertex(1)))
	value := call(api.CallValue, rep(vertex(1)))
	plus := func(a, b api.Node) api.Node { return of(api.EAdd, a, b) }
	cells := func(root api.Node, many int) api.Plan { return made(root, make([]int, many)...) }
	// Room for none, for one and for two: a call that stays is gone into, where a call may be that has a cell.
	first := plus(value, plus(large, large))
	wantStays(t, shares, cells(first, 256))
	wantPassed(t, shares, cells(first, 255), cells(plus(call(api.CallValue, cell(255, rep(vertex(1)))), plus(call(api.CallSize, cell(255, rep(vertex(1)))), call(api.CallSize, cell(255, rep(vertex(1)))))), 256))
	wantPassed(t, shares, cells(first, 254), cells(plus(call(api.CallValue, cell(254, rep(vertex(1)))), plus(cell(255, large), cell(255, large))), 256))
	last := plus(plus(large, large), value)
	wantStays(t, shares, cells(last, 256))
	wantPassed(t, shares, cells(last, 255), cells(plus(plus(cell(255, large), cell(255, large)), value), 256))
	wantPassed(t, shares, cells(last, 254), cells(plus(plus(cell(254, large), cell(254, large)), call(api.CallValue, cell(255, rep(vertex(1))))), 256))
	// Alike ones of a call that has the last cell go on into that.
	mixed := plus(plus(size(1), size(2)), plus(plus(size(2), size(1)), plus(size(1), size(2))))
	wantPassed(t, shares, cells(mixed, 255), cells(plus(plus(cell(255, size(1)), size(2)), plus(plus(size(2), cell(255, size(1))), plus(cell(255, size(1)), size(2)))), 256))
}

func TestZ2WrongPlans(t *testing.T) {
	for _, p := range wrongPlans() {
		if _, is := passed(t, shares, p); is {
			t.Errorf("was taken: %s", told(p))
		}
	}
}

func TestZ2PlansWithoutEnd(t *testing.T) {
	for _, p := range plansWithoutEnd() {
		if got, err := share.Share(p); err != api.ErrPlanForm || !same(got, api.Plan{}) {
			t.Errorf("%d", err)
		}
	}
}

// The greatest plans that there are; what comes of them may be more than a plan may have.
func TestZ2GreatPlans(t *testing.T) {
	rep := func(n api.Node) api.Node { return call(api.CallRep, n) }
	long := made(chain(4095, vertex(1), rep))
	if got, err := share.Share(long); err != api.OK || !same(got, long) {
		t.Errorf("%d", err)
	}
	half := func() api.Node { return call(api.CallSize, chain(2045, vertex(1), rep)) }
	got, err := share.Share(made(of(api.EAdd, half(), half())))
	if err != api.OK || !same(got, made(of(api.EAdd, cell(0, half()), cell(0, half())), 0)) || countParts(got.Root) != 4097 || plan.Right(got) {
		t.Errorf("%d, %d parts", err, countParts(got.Root))
	}
	// One in another: the greater half of the longer one is gone into.
	got, err = share.Share(made(of(api.EEq, chain(1000, vertex(1), rep), chain(3000, vertex(1), rep))))
	if want := made(of(api.EEq, cell(0, chain(1000, vertex(1), rep)), chain(2000, cell(0, chain(1000, vertex(1), rep)), rep)), 0); err != api.OK || !same(got, want) {
		t.Errorf("%d, %d parts", err, countParts(got.Root))
	}
	// All of one kind, and each twice.
	size := func(i int) api.Node { return call(api.CallSize, vertex(i)) }
	for _, below := range []int{1, 2, 255, 256, 257, 600} {
		p := made(summed(1365, func(i int) api.Node { return size(i % below) }))
		if got, is := passed(t, shares, p); !is || len(got.Cells) != min(below, 256) {
			t.Errorf("%d: %d cells", below, len(got.Cells))
		}
	}
	// Long lists, which are unlike at their ends alone.
	list := func(first, last int) api.Node {
		n := of(api.ESetList, vertex(first))
		for i := range 1000 {
			n.Kids = append(n.Kids, vertex(i))
		}
		n.Kids = append(n.Kids, vertex(last))
		return call(api.CallSize, of(api.EIf, quant(api.QuantAll, n, boolean(1)), vertex(1), vertex(2)))
	}
	for i, n := range []api.Node{list(1, 1), list(1, 2), list(2, 1)} {
		if got, is := passed(t, shares, made(of(api.EAdd, list(1, 1), n))); !is || len(got.Cells) != number(i == 0) {
			t.Errorf("%d: %d cells", i, len(got.Cells))
		}
	}
}

// Every three calls out of a pool, in whatever rounds.
func TestZ2SmallPlans(t *testing.T) {
	rep := func(n api.Node) api.Node { return call(api.CallRep, n) }
	value := func(n api.Node) api.Node { return call(api.CallValue, n) }
	some := func(set, v api.Node) api.Node {
		return value(of(api.EIf, quant(api.QuantSome, set, of(api.EEq, v, vertex(1))), vertex(1), vertex(2)))
	}
	pool := []api.Node{
		integer(1), value(vertex(1)), value(vertex(2)), value(variable(0)), value(variable(1)), value(rep(vertex(1))), value(rep(variable(0))), value(rep(rep(vertex(1)))), call(api.CallBottleneck, rep(vertex(1)), rep(vertex(1))), call(api.CallBottleneck, rep(variable(0)), rep(variable(1))),
		cell(0, value(vertex(1))), value(cell(1, rep(vertex(1)))), cell(0, value(vertex(1))), some(all, variable(0)), some(all, variable(1)), some(all, variable(2)), some(of(api.ESetAround, rep(vertex(1))), vertex(1)),
		value(of(api.EIf, quant(api.QuantSome, all, quant(api.QuantSome, all, of(api.EEq, variable(1), vertex(1)))), vertex(1), vertex(2))),
	}
	many, cells := 0, [4]int{}
	for _, a := range pool {
		for _, b := range pool {
			for _, c := range pool {
				for rounds := range 8 {
					kids := []api.Node{copied(a), copied(b), copied(c)}
					for i := range kids {
						if rounds>>i&1 == 1 {
							kids[i] = quant(api.QuantSum, all, kids[i])
						}
					}
					body := of(api.EAdd, kids[0], of(api.EMul, kids[1], kids[2]))
					if bits.OnesCount(uint(rounds)) < 3 {
						body = quant(api.QuantSum, setName("few"), body)
					}
					if got, is := passed(t, shares, made(body, 0, 0)); is {
						many++
						cells[len(got.Cells)-2]++
					}
				}
			}
		}
	}
	if many < 20000 || cells[0] < 5000 || cells[1] < 5000 || cells[2] < 400 {
		t.Errorf("%d, %v", many, cells)
	}
}

func TestZ2DrawnPlans(t *testing.T) {
	right, wrong, cells, twice := 0, 0, 0, 0
	for _, d := range []*drawn{drawing(0, 0, 0), drawing(20, 0, 0), drawing(20, 15, 0), drawing(40, 30, 0), drawing(10, 5, 2)} {
		for i := range 4000 {
			p := d.plan(1+i%3, 3+i%7)
			got, is := passed(t, shares, p)
			if !is {
				wrong++
				continue
			}
			right++
			cells += len(got.Cells) - len(p.Cells)
			twice += countParts(got.Root) - countParts(p.Root)
		}
	}
	if right < 15000 || wrong < 400 || cells < 7000 || twice < 2*cells {
		t.Errorf("%d, %d, %d, %d", right, wrong, cells, twice)
	}
}
