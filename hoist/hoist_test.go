package hoist_test

import (
	"fmt"
	"strings"
	"testing"

	"isthmus/api"
	"isthmus/hoist"
	"isthmus/plan"
)

// wantText holds what comes of a query to a text, with the Cells behind it.
func wantText(t *testing.T, query, want string) {
	t.Helper()
	got, is := hoisted(t, planOf(t, query))
	if have := fmt.Sprintf("%s %v", text(got.Root), got.Cells); !is || have != want {
		t.Errorf("%q became %s; wanted %s", query, have, want)
	}
}

// wantBare holds that a query stays.
func wantBare(t *testing.T, query string) {
	t.Helper()
	wantStays(t, planOf(t, query))
}

func TestH1Examples(t *testing.T) {
	wantText(t, "sum v in vertices: size(@1)", "(sum vertices: [0 size(@1)]) [0]")
	wantBare(t, "sum v in vertices: size(v)")
	wantText(t, "all v in vertices: some w in vertices: connected(v, @1) and value(w) = value(v)", "(all vertices: (some vertices: [0 connected(v0, @1)] and value(v1) = [1 value(v0)])) [1 1]")
	wantText(t, "sum v in vertices: count w in around(@1): true", "(sum vertices: [0 (count around(@1): true)]) [0]")
	wantBare(t, "size(rep(@1))")
	wantText(t, "sum v in vertices: size(rep(@1))", "(sum vertices: [0 size(rep(@1))]) [0]")
}

// Only calls and quantifiers are kept, whatever else does not change.
func TestH1Kinds(t *testing.T) {
	for _, query := range []string{
		"1 + 2", "@1", "not true", "size(@1)", "connected(@1, @2)", "all v in few: true", "sum v in {}: 1 + 2 * 3", "sum v in vertices: if 1 < 2 then 3 else 4", "all v in vertices: @1 = @2", "count v in {@1, @2}: v = @1 or not true", "sum v in around(@1): 7", "sum v in around(rep(@1)): 7",
		"all v in vertices: some w in vertices: v = w", "size(if all v in few: v = @1 then @1 else @2)", "min v in {rep(@1), rep(rep(@2))}: 1",
	} {
		wantBare(t, query)
	}
	for name, args := range map[string]string{"connected": "@1, @2", "block": "@1, @2", "bottleneck": "@1, @2", "size": "@1", "total": "@1", "least": "@1", "most": "@1", "value": "@1", "degree": "@1", "rep": "@1"} {
		call := fmt.Sprintf("%s(%s)", name, args)
		wantText(t, fmt.Sprintf("all v in few: %s = %s", call, call), fmt.Sprintf("(all few: [0 %s] = [1 %s]) [0 0]", call, call))
		wantBare(t, call+" = "+call)
		moved := strings.Replace(call, "@1", "v", 1)
		wantBare(t, fmt.Sprintf("all v in few: %s = %s", moved, moved))
	}
	for name, body := range map[string]string{"all": "true", "some": "true", "count": "true", "sum": "1", "min": "1", "max": "1"} {
		wantText(t, fmt.Sprintf("all v in few: (%s w in few: %s) = (%s w in {v}: %s)", name, body, name, body), fmt.Sprintf("(all few: [0 (%s few: %s)] = (%s {v0}: %s)) [0]", name, body, name, body))
	}
	for _, x := range [][2]string{
		{"sum v in few: -size(@1)", "(sum few: -[0 size(@1)]) [0]"},
		{"sum v in few: size(@1) - 2 * size(v)", "(sum few: [0 size(@1)] - 2 * size(v0)) [0]"},
		{"all v in few: not connected(@1, @2) or v = @1", "(all few: not [0 connected(@1, @2)] or v0 = @1) [0]"},
		{"sum v in few: if value(@1) < 2 then value(@2) else value(v)", "(sum few: if [0 value(@1)] < 2 then [1 value(@2)] else value(v0)) [0 0]"},
	} {
		wantText(t, x[0], x[1])
	}
}

// On how many of the quantifiers around it a part hangs, of one to four.
func TestH1Hangs(t *testing.T) {
	head := "sum a in few: sum b in around(a): sum c in around(b): sum d in around(c): "
	opened := "(sum few: (sum around(v0): (sum around(v1): (sum around(v2): "
	for args, hangs := range map[string]string{"@1, @2": "0", "a, @2": "1", "@1, a": "1", "a, a": "1", "b, @1": "2", "b, a": "2", "a, b": "2", "c, @1": "3", "a, c": "3", "c, b": "3", "b, c": "3"} {
		inner := strings.NewReplacer("a", "v0", "b", "v1", "c", "v2").Replace(args)
		wantText(t, head+"bottleneck("+args+")", opened+"[0 bottleneck("+inner+")])))) ["+hangs+"]")
	}
	for _, args := range []string{"d, @1", "@1, d", "d, d", "a, d", "d, c"} {
		wantBare(t, head+"bottleneck("+args+")")
	}
	for _, x := range [][2]string{
		{"sum a in few: value(a)", "(sum few: value(v0)) []"},
		{"sum a in few: sum b in few: value(a)", "(sum few: (sum few: [0 value(v0)])) [1]"},
		{"sum a in few: sum b in around(a): sum c in around(b): value(a) + value(b) + value(c)", "(sum few: (sum around(v0): (sum around(v1): [0 value(v0)] + [1 value(v1)] + value(v2)))) [1 2]"},
		// Quantifiers within a part are not around it, whatever their variables' numbers are.
		{"sum a in few: sum b in few: sum c in few: value(c)", "(sum few: [0 (sum few: [1 (sum few: value(v2))])]) [0 0]"},
		{"sum a in few: sum b in few: sum c in few: value(b)", "(sum few: [0 (sum few: (sum few: [1 value(v1)]))]) [0 2]"},
		{"sum a in few: sum b in few: sum c in around(a): value(c)", "(sum few: (sum few: [0 (sum around(v0): value(v2))])) [1]"},
		{"sum a in few: sum b in few: sum c in few: value(a)", "(sum few: (sum few: [0 (sum few: [1 value(v0)])])) [1 1]"},
		{"sum a in few: size(if some b in few: value(b) = 1 then @1 else @2)", "(sum few: [0 size(if (some few: value(v1) = 1) then @1 else @2)]) [0]"},
		{"sum a in few: size(if some b in few: value(a) = 1 then @1 else @2)", "(sum few: size(if (some few: [0 value(v0)] = 1) then @1 else @2)) [1]"},
	} {
		wantText(t, x[0], x[1])
	}
}

// The reach of what is in a part that is kept is what that hangs on; a body's is all that is around it.
func TestH1Reach(t *testing.T) {
	for _, x := range [][2]string{
		{"sum v in few: size(rep(rep(@1)))", "(sum few: [0 size(rep(rep(@1)))]) [0]"},
		{"sum v in few: bottleneck(rep(@1), rep(v))", "(sum few: bottleneck([0 rep(@1)], rep(v0))) [0]"},
		{"sum v in few: sum w in few: bottleneck(rep(@1), rep(v))", "(sum few: (sum few: [0 bottleneck([1 rep(@1)], rep(v0))])) [1 0]"},
		{"sum v in few: sum w in few: sum x in few: bottleneck(rep(if value(v) = value(@3) then @1 else v), rep(w))", "(sum few: (sum few: (sum few: [0 bottleneck([1 rep(if value(v0) = [2 value(@3)] then @1 else v0)], rep(v1))]))) [2 1 0]"},
		// A set has the reach of its quantifier; a round within it has a body of its own.
		{"sum v in around(rep(@1)): 1", "(sum around(rep(@1)): 1) []"},
		{"sum v in few: sum w in around(rep(@1)): value(v)", "(sum few: (sum around([0 rep(@1)]): [1 value(v0)])) [0 1]"},
		{"sum v in few: sum w in around(rep(@1)): value(w)", "(sum few: [0 (sum around(rep(@1)): value(v1))]) [0]"},
		{"sum v in few: sum w in around(rep(v)): value(@1)", "(sum few: (sum around(rep(v0)): [0 value(@1)])) [0]"},
		{"sum v in few: sum w in {rep(@1), v, rep(v), rep(@2)}: 1", "(sum few: (sum {[0 rep(@1)], v0, rep(v0), [1 rep(@2)]}: 1)) [0 0]"},
		{"sum v in few: sum w in few: sum x in around(rep(v)): bottleneck(v, @1)", "(sum few: (sum few: [0 (sum around(rep(v0)): [1 bottleneck(v0, @1)])])) [1 1]"},
		{"sum v in {if some w in few: size(@1) = 1 then @1 else rep(@2)}: 1", "(sum {if (some few: [0 size(@1)] = 1) then @1 else rep(@2)}: 1) [0]"},
		{"sum v in few: sum w in {if some x in few: x = v and size(@1) = size(v) then @1 else rep(@2)}: 1", "(sum few: (sum {if (some few: v1 = v0 and [0 size(@1)] = [1 size(v0)]) then @1 else [2 rep(@2)]}: 1)) [0 1 0]"},
		// In a kept quantifier's body all rounds count again, those that it hangs on not, too.
		{"sum v in few: sum w in few: size(@1) + value(w)", "(sum few: [0 (sum few: [1 size(@1)] + value(v1))]) [0 0]"},
		{"sum v in few: sum w in few: sum x in around(v): value(v) + value(x) + size(rep(@1))", "(sum few: (sum few: [0 (sum around(v0): [1 value(v0)] + value(v2) + [2 size(rep(@1))])])) [1 1 0]"},
	} {
		wantText(t, x[0], x[1])
	}
}

// Kids are gone through from the left, each wholly ahead of the next one.
func TestH1Order(t *testing.T) {
	for _, x := range [][2]string{
		{"sum v in few: size(@1) + size(@2) * size(@3)", "(sum few: [0 size(@1)] + [1 size(@2)] * [2 size(@3)]) [0 0 0]"},
		{"sum v in few: if size(@1) = 1 then size(@2) else size(@3)", "(sum few: if [0 size(@1)] = 1 then [1 size(@2)] else [2 size(@3)]) [0 0 0]"},
		{"sum v in few: (sum w in few: size(@1) + value(w)) + size(@2)", "(sum few: [0 (sum few: [1 size(@1)] + value(v1))] + [2 size(@2)]) [0 0 0]"},
		{"sum v in few: size(@2) + (sum w in around(rep(@3)): size(@1) + value(v))", "(sum few: [0 size(@2)] + (sum around([1 rep(@3)]): [2 size(@1)] + [3 value(v0)])) [0 0 0 1]"},
		{"(sum v in few: size(@1)) + (sum v in few: size(@1))", "(sum few: [0 size(@1)]) + (sum few: [1 size(@1)]) [0 0]"},
		{"sum v in few: sum w in few: bottleneck(if value(v) = size(@1) then v else w, rep(@2)) + value(v)", "(sum few: (sum few: bottleneck(if [0 value(v0)] = [1 size(@1)] then v0 else v1, [2 rep(@2)]) + [3 value(v0)])) [1 0 0 1]"},
	} {
		wantText(t, x[0], x[1])
	}
}

// Cells that are there stay, with all that is in them; new ones are numbered behind them, and behind those that no part has.
func TestH1CellsThatAreThere(t *testing.T) {
	few, size, value := setName("few"), call(api.CallSize, vertex(1)), call(api.CallValue, variable(0))
	plus := func(a, b api.Node) api.Node { return of(api.EAdd, a, b) }
	sum := func(body api.Node) api.Node { return quant(api.QuantSum, few, body) }
	for _, p := range []api.Plan{
		made(sum(cell(0, size)), 0), made(sum(cell(0, size)), 1), made(cell(0, size), 0), made(cell(0, sum(size)), 0), made(cell(0, sum(sum(plus(size, value)))), 0), made(sum(cell(0, sum(plus(size, value)))), 1),
		made(sum(plus(cell(0, size), cell(0, size))), 1), made(sum(cell(1, cell(0, size))), 0, 1), made(integer(1), 0, 1, 2, 3, 4), made(sum(cell(2, integer(7))), 4, 4, 1, 4),
		made(sum(cell(0, of(api.EAdd, integer(1), of(api.ENeg, size)))), 0),
	} {
		wantStays(t, p)
	}
	for _, x := range []struct{ from, to api.Plan }{
		{made(sum(size), 0), made(sum(cell(1, size)), 0, 0)},
		{made(sum(size), 3, 2, 1), made(sum(cell(3, size)), 3, 2, 1, 0)},
		{made(sum(plus(cell(0, size), size)), 0), made(sum(plus(cell(0, size), cell(1, size))), 0, 0)},
		{made(sum(plus(size, cell(0, size))), 1), made(sum(plus(cell(1, size), cell(0, size))), 1, 0)},
		{made(sum(sum(plus(cell(0, plus(size, value)), value))), 1), made(sum(sum(plus(cell(0, plus(size, value)), cell(1, value)))), 1, 1)},
		// A cell in a part that is kept.
		{made(sum(sum(cell(0, size))), 0), made(sum(cell(1, sum(cell(0, size)))), 0, 0)},
		{made(sum(sum(cell(0, size))), 2), made(sum(cell(1, sum(cell(0, size)))), 2, 0)},
		{made(sum(sum(cell(0, value))), 1), made(sum(sum(cell(0, value))), 1)},
		{made(sum(call(api.CallSize, cell(0, call(api.CallRep, vertex(1))))), 0), made(sum(cell(1, call(api.CallSize, cell(0, call(api.CallRep, vertex(1)))))), 0, 0)},
		{made(sum(call(api.CallBottleneck, cell(0, variable(0)), call(api.CallRep, vertex(1)))), 1), made(sum(call(api.CallBottleneck, cell(0, variable(0)), cell(1, call(api.CallRep, vertex(1))))), 1, 0)},
	} {
		wantHoisted(t, x.from, x.to)
	}
}

// summed is the sum of so many parts.
func summed(many int, part func(i int) api.Node) api.Node {
	n := part(0)
	for i := 1; i < many; i++ {
		n = of(api.EAdd, n, part(i))
	}
	return n
}

// There are at most 256 cells, those that were there with them; what stands behind them stays, and is gone into.
func TestH1MostCells(t *testing.T) {
	few := setName("few")
	size := func(i int) api.Node { return call(api.CallSize, vertex(i)) }
	for _, had := range []int{0, 1, 100, 254, 255, 256} {
		for _, many := range []int{1, 2, 156, 157, 255, 256, 257, 300} {
			p := made(quant(api.QuantSum, few, summed(many, size)), make([]int, had)...)
			got, _ := hoisted(t, p)
			want := quant(api.QuantSum, few, summed(many, func(i int) api.Node {
				if had+i < 256 {
					return cell(had+i, size(i))
				}
				return size(i)
			}))
			wantHoisted(t, p, made(want, make([]int, min(had+many, 256))...))
			if !plan.Right(got) {
				t.Errorf("%d, %d: not right", had, many)
			}
		}
	}
	// A quantifier that there is no room for, or just for it, or for one part in it.
	inner := quant(api.QuantSum, of(api.ESetAround, call(api.CallRep, vertex(1))), of(api.EAdd, size(1), call(api.CallSize, call(api.CallRep, variable(1)))))
	kept := quant(api.QuantSum, of(api.ESetAround, call(api.CallRep, vertex(1))), of(api.EAdd, cell(255, size(1)), call(api.CallSize, call(api.CallRep, variable(1)))))
	p := func(body api.Node, cells int) api.Plan {
		return made(quant(api.QuantSum, few, body), make([]int, cells)...)
	}
	wantStays(t, p(inner, 256))
	wantHoisted(t, p(inner, 255), p(cell(255, inner), 256))
	wantHoisted(t, p(inner, 254), p(cell(254, kept), 256))
	// Where a part stays for want of room, its kids keep its reach; there is no room for them either.
	wantStays(t, p(call(api.CallSize, call(api.CallRep, vertex(1))), 256))
}

// What is not right is no plan, however little is wrong with it, and wherever.
func TestH1WrongPlans(t *testing.T) {
	one, yes := integer(1), boolean(1)
	size := call(api.CallSize, vertex(1))
	for _, p := range []api.Plan{
		{}, made(all), made(of(api.EAdd, one)), made(of(api.EAdd, one, yes)), made(of(api.ENot)), made(boolean(2)), made(vertex(-1)), made(variable(0)), made(variable(-1)), made(of(api.EIf, yes, one, yes)),
		made(call(0, vertex(1))), made(call(11, vertex(1))), made(call(api.CallSize)), made(call(api.CallSize, vertex(1), vertex(1))), made(call(api.CallSize, one)), made(call(api.CallConnected, vertex(1))), made(call(api.CallSize, variable(0))),
		made(quant(0, all, yes)), made(quant(7, all, one)), made(quant(api.QuantSum, all)), made(quant(api.QuantSum, all, size, size)), made(quant(api.QuantSum, size, size)), made(quant(api.QuantAll, all, size)), made(quant(api.QuantSum, all, call(api.CallSize, variable(1)))), made(quant(api.QuantSum, setName("in"), size)), made(quant(api.QuantSum, of(api.ESetAround, variable(0)), size)),
		made(cell(0, one)), made(cell(1, one), 0), made(cell(0, one), 1), made(cell(0, one), -1), made(cell(0, one), 5), made(one, 5), made(one, -1), made(cell(0), 0), made(cell(0, all), 0), made(quant(api.QuantSum, all, cell(0, call(api.CallSize, variable(0)))), 0),
		made(quant(api.QuantSum, all, of(api.EAdd, cell(0, size), cell(0, one))), 0), made(one, make([]int, 257)...), made(chain(5, size, func(n api.Node) api.Node { return quant(api.QuantSum, all, n) })),
		made(api.Node{Kind: api.EInt, Name: "v"}), made(api.Node{Kind: api.EName, Name: "v"}), made(api.Node{Kind: 27}), made(api.Node{Kind: -1}),
	} {
		if _, is := hoisted(t, p); is {
			t.Errorf("was hoisted: %s", told(p))
		}
	}
}

// Plans that are within themselves, or have more parts than there may be.
func TestH1PlansWithoutEnd(t *testing.T) {
	kids := make([]api.Node, 1)
	kids[0] = call(api.CallRep)
	kids[0].Kids = kids
	wide := integer(0)
	for range 60 {
		wide = of(api.EAdd, wide, wide)
	}
	bodies := []api.Node{all, {Kind: api.EQuant, N: api.QuantSum}}
	bodies[1].Kids = bodies
	rep := func(n api.Node) api.Node { return call(api.CallRep, n) }
	for _, root := range []api.Node{kids[0], wide, bodies[1], chain(4096, vertex(1), rep), quant(api.QuantSum, all, call(api.CallSize, kids[0])), quant(api.QuantSum, all, wide)} {
		if got, err := hoist.Hoist(made(root)); err != api.ErrPlanForm || !same(got, api.Plan{}) {
			t.Errorf("%d", err)
		}
	}
}

// The greatest plans that there are; what comes of them may be more than a plan may have.
func TestH1GreatPlans(t *testing.T) {
	rep := func(n api.Node) api.Node { return call(api.CallRep, n) }
	size := func(n api.Node) api.Node { return call(api.CallSize, n) }
	wantStays(t, made(chain(4095, vertex(1), rep)))
	wantStays(t, made(quant(api.QuantSum, all, size(chain(4092, variable(0), rep)))))
	kept := cell(0, size(chain(4092, vertex(1), rep)))
	wantHoisted(t, made(quant(api.QuantSum, all, kept.Kids[0])), made(quant(api.QuantSum, all, kept), 0))
	if got, err := hoist.Hoist(made(quant(api.QuantSum, all, kept.Kids[0]))); err != api.OK || plan.Right(got) || countParts(got.Root) != 4097 {
		t.Errorf("%d, %d parts", err, countParts(got.Root))
	}
	body := of(api.ESub, summed(1364, func(i int) api.Node { return size(vertex(i)) }), call(api.CallValue, variable(0)))
	p := made(quant(api.QuantSum, all, body))
	if countParts(p.Root) != 4096 {
		t.Fatal(countParts(p.Root))
	}
	got, is := hoisted(t, p)
	if !is || len(got.Cells) != 256 || countParts(got.Root) != countParts(p.Root)+256 || plan.Right(got) {
		t.Errorf("%d cells, %d parts", len(got.Cells), countParts(got.Root))
	}
	// A call in a call, each of which hangs on one more.
	deep := made(quant(api.QuantSum, all, quant(api.QuantSum, all, quant(api.QuantSum, all, size(chain(4088, variable(1), rep))))))
	if got, is := hoisted(t, deep); !is || len(got.Cells) != 2 || got.Cells[0] != 0 || got.Cells[1] != 2 {
		t.Errorf("%v", got.Cells)
	}
}

// Every kind of part with kids of all sorts, in one round and in two.
func TestH1SmallPlans(t *testing.T) {
	rep := call(api.CallRep, variable(0))
	ints := []api.Node{integer(1), call(api.CallSize, vertex(1)), call(api.CallValue, variable(0)), call(api.CallValue, variable(1)), call(api.CallSize, rep), call(api.CallSize, call(api.CallRep, vertex(1))), cell(0, call(api.CallSize, vertex(1))), quant(api.QuantSum, all, integer(1)), quant(api.QuantSum, of(api.ESetAround, variable(0)), call(api.CallValue, variable(1))), quant(api.QuantMax, all, call(api.CallValue, variable(2)))}
	bools := []api.Node{boolean(1), call(api.CallBlock, variable(0), vertex(1)), call(api.CallConnected, variable(1), variable(0)), call(api.CallConnected, rep, vertex(2)), quant(api.QuantAll, of(api.ESetList, rep), of(api.EEq, variable(0), vertex(1)))}
	vertices := []api.Node{vertex(1), variable(0), variable(1), rep, call(api.CallRep, vertex(1)), call(api.CallRep, call(api.CallRep, variable(1))), of(api.EIf, bools[1], rep, vertex(3)), cell(1, call(api.CallRep, vertex(1)))}
	sets := []api.Node{all, setName("few")}
	for _, v := range vertices {
		sets = append(sets, of(api.ESetAround, v), of(api.ESetList, v), of(api.ESetList, v, call(api.CallRep, vertex(1))))
	}
	pool := append(append(append([]api.Node{}, ints...), bools...), vertices...)
	many := 0
	hold := func(n api.Node) {
		for _, root := range []api.Node{n, quant(api.QuantSum, all, n), quant(api.QuantAll, all, n), quant(api.QuantSum, all, quant(api.QuantSum, setName("few"), n)), quant(api.QuantSum, all, quant(api.QuantCount, all, n))} {
			if _, is := hoisted(t, made(root, 0, 0)); is {
				many++
			}
		}
	}
	for kind := range 28 {
		for n := range 11 {
			if n > 1 && kind != api.ECall && kind != api.EQuant {
				continue
			}
			for _, a := range append(sets, pool...) {
				hold(api.Node{Kind: kind, N: n, Kids: []api.Node{a}})
				for _, b := range pool {
					hold(api.Node{Kind: kind, N: n, Kids: []api.Node{a, b}})
				}
			}
		}
	}
	if many < 5000 {
		t.Errorf("%d", many)
	}
}

func TestH1DrawnPlans(t *testing.T) {
	right, wrong, kept := 0, 0, 0
	for _, d := range []*drawn{drawing(0, 5, 0), drawing(15, 5, 0), drawing(40, 5, 0), drawing(5, 5, 2)} {
		for i := range 5000 {
			p := d.plan(1+i%3, 3+i%7)
			got, is := hoisted(t, p)
			if !is {
				wrong++
				continue
			}
			right++
			kept += len(got.Cells) - len(p.Cells)
		}
	}
	if right < 15000 || wrong < 500 || kept < 7500 {
		t.Errorf("%d, %d, %d", right, wrong, kept)
	}
}
