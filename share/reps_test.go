package share_test

import (
	"fmt"
	"strings"
	"testing"

	"isthmus/api"
	"isthmus/plan"
	"isthmus/share"
)

// wantText holds what a pass makes of a query to a text, with the Cells behind it.
func wantText(t *testing.T, x pass, query, want string) {
	t.Helper()
	got, is := passed(t, x, planOf(t, query))
	if have := fmt.Sprintf("%s %v", text(got.Root), got.Cells); !is || have != want {
		t.Errorf("%s of %q: %s; wanted %s", x.name, query, have, want)
	}
}

// wantBare holds that a query stays.
func wantBare(t *testing.T, x pass, query string) {
	t.Helper()
	wantStays(t, x, planOf(t, query))
}

func TestZ1Examples(t *testing.T) {
	wantText(t, reps, "all v in vertices: connected(v, @1)", "(all vertices: rep(v0) = rep(@1)) []")
	wantPassed(t, reps, planOf(t, "all v in vertices: connected(v, @1)"), planOf(t, "all v in vertices: rep(v) = rep(@1)"))
	wantBare(t, reps, "connected(@1, @2)")
}

// Each connection in a round, whatever its kids are and whatever it stands in, and no other call.
func TestZ1Calls(t *testing.T) {
	for _, args := range []string{"v, @1", "@1, v", "v, v", "@1, @2", "@9, @1", "rep(v), rep(rep(@1))", "if v = @1 then v else @2, @3"} {
		pair := strings.SplitN(args, ", ", 2)
		want := fmt.Sprintf("all v in few: rep(%s) = rep(%s)", pair[0], pair[1])
		wantPassed(t, reps, planOf(t, fmt.Sprintf("all v in few: connected(%s)", args)), planOf(t, want))
		wantBare(t, reps, want)
	}
	for _, body := range []string{"block(v, @1)", "bottleneck(v, @1) = 1", "size(v) = total(v)", "least(v) < most(v)", "value(v) = degree(v)", "rep(v) = rep(@1)", "v = @1", "true"} {
		wantBare(t, reps, "all v in few: "+body)
	}
	for _, name := range []string{"all", "some", "count"} {
		wantText(t, reps, name+" v in few: connected(v, @1)", fmt.Sprintf("(%s few: rep(v0) = rep(@1)) []", name))
	}
	for _, name := range []string{"sum", "min", "max"} {
		wantText(t, reps, name+" v in few: if connected(v, @1) then 1 else 2", fmt.Sprintf("(%s few: if rep(v0) = rep(@1) then 1 else 2) []", name))
	}
	for _, set := range []string{"vertices", "few", "around(@1)", "{@1, @2}", "{}"} {
		wantText(t, reps, "some v in "+set+": connected(v, @1)", "(some "+set+": rep(v0) = rep(@1)) []")
	}
	for _, x := range [][2]string{
		{"all v in few: not connected(v, @1)", "(all few: not rep(v0) = rep(@1)) []"},
		{"all v in few: connected(v, @1) and v = @2 or connected(@1, v)", "(all few: rep(v0) = rep(@1) and v0 = @2 or rep(@1) = rep(v0)) []"},
		{"all v in few: connected(v, @1) = connected(v, @2)", "(all few: rep(v0) = rep(@1) = rep(v0) = rep(@2)) []"},
		{"all v in few: some w in around(v): connected(v, w)", "(all few: (some around(v0): rep(v0) = rep(v1))) []"},
		{"size(@1) + (count v in few: connected(v, @1))", "size(@1) + (count few: rep(v0) = rep(@1)) []"},
	} {
		wantText(t, reps, x[0], x[1])
	}
}

// A quantifier is around what is in its body alone.
func TestZ1Rounds(t *testing.T) {
	for _, query := range []string{
		"connected(@1, @2) and connected(@2, @3)", "if connected(@1, @2) then 1 else 2", "sum v in {if connected(@1, @2) then @1 else @2}: 1", "sum v in around(if connected(@1, @2) then @1 else @2): 1", "(all v in few: true) and connected(@1, @2)", "connected(@1, @2) and (all v in few: true)",
	} {
		wantBare(t, reps, query)
	}
	for _, x := range [][2]string{
		{"connected(@1, @2) and (all v in few: connected(@1, @2)) and connected(@1, @2)", "connected(@1, @2) and (all few: rep(@1) = rep(@2)) and connected(@1, @2) []"},
		// In the set of a round that is in another one.
		{"sum v in few: sum w in {if connected(@1, @2) then @1 else @2}: 1", "(sum few: (sum {if rep(@1) = rep(@2) then @1 else @2}: 1)) []"},
		{"sum v in few: sum w in around(if connected(v, @2) then @1 else @2): 1", "(sum few: (sum around(if rep(v0) = rep(@2) then @1 else @2): 1)) []"},
		// In the body of a round that is in another one's set.
		{"sum v in {if some w in few: connected(w, @2) then @1 else @2}: 1", "(sum {if (some few: rep(v0) = rep(@2)) then @1 else @2}: 1) []"},
		// A round in a connection's kids is not around it.
		{"connected(@1, if some w in few: connected(w, @2) then @1 else @2)", "connected(@1, if (some few: rep(v0) = rep(@2)) then @1 else @2) []"},
		{"connected(if connected(@1, @3) then @1 else @2, if some w in few: connected(w, @2) then @1 else @2)", "connected(if connected(@1, @3) then @1 else @2, if (some few: rep(v0) = rep(@2)) then @1 else @2) []"},
	} {
		wantText(t, reps, x[0], x[1])
	}
}

// What stands in a connection's kids likewise, however deep.
func TestZ1Kids(t *testing.T) {
	for _, x := range [][2]string{
		{"all v in few: connected(if connected(v, @1) then v else @2, @3)", "(all few: rep(if rep(v0) = rep(@1) then v0 else @2) = rep(@3)) []"},
		{"all v in few: connected(@3, if connected(v, @1) then v else @2)", "(all few: rep(@3) = rep(if rep(v0) = rep(@1) then v0 else @2)) []"},
		{"all v in few: connected(if connected(v, if connected(@4, v) then @5 else v) then v else @2, rep(if connected(v, v) then v else @6))", "(all few: rep(if rep(v0) = rep(if rep(@4) = rep(v0) then @5 else v0) then v0 else @2) = rep(rep(if rep(v0) = rep(v0) then v0 else @6))) []"},
		{"all v in few: block(if connected(v, @1) then v else @2, @3)", "(all few: block(if rep(v0) = rep(@1) then v0 else @2, @3)) []"},
	} {
		wantText(t, reps, x[0], x[1])
	}
	both := func(n api.Node) api.Node {
		return of(api.EIf, call(api.CallConnected, n, n), n, vertex(1))
	}
	twice := func(n api.Node) api.Node {
		return of(api.EIf, of(api.EEq, call(api.CallRep, n), call(api.CallRep, n)), n, vertex(1))
	}
	for deep := range 6 {
		wantPassed(t, reps, made(quant(api.QuantSum, all, call(api.CallSize, chain(deep, variable(0), both)))), made(quant(api.QuantSum, all, call(api.CallSize, chain(deep, variable(0), twice)))))
		wantStays(t, reps, made(call(api.CallSize, chain(deep, vertex(2), both))))
	}
}

// Cells stay as they are, with all that is in them; what they stand in does not.
func TestZ1Cells(t *testing.T) {
	few, fixed, moved := setName("few"), call(api.CallConnected, vertex(1), vertex(2)), call(api.CallConnected, variable(0), vertex(2))
	rep := func(n api.Node) api.Node { return call(api.CallRep, n) }
	every := func(body api.Node) api.Node { return quant(api.QuantAll, few, body) }
	for _, p := range []api.Plan{
		made(every(cell(0, fixed)), 0), made(every(cell(0, moved)), 1), made(every(cell(0, of(api.ENot, fixed))), 0), made(cell(0, every(moved)), 0), made(cell(0, every(every(moved))), 0), made(every(of(api.EAnd, cell(0, fixed), cell(0, fixed))), 1), made(every(cell(1, cell(0, fixed))), 0, 1), made(fixed, 3, 2, 1), made(every(boolean(1)), 4, 4),
	} {
		wantStays(t, reps, p)
	}
	choice := func(is api.Node) api.Node { return of(api.EIf, is, vertex(1), vertex(2)) }
	for _, x := range []struct{ from, to api.Plan }{
		{made(every(of(api.EAnd, cell(0, moved), moved)), 1), made(every(of(api.EAnd, cell(0, moved), of(api.EEq, rep(variable(0)), rep(vertex(2))))), 1)},
		{made(every(of(api.EOr, fixed, cell(0, fixed))), 0), made(every(of(api.EOr, of(api.EEq, rep(vertex(1)), rep(vertex(2))), cell(0, fixed))), 0)},
		{made(every(call(api.CallConnected, cell(0, choice(fixed)), choice(moved))), 0), made(every(of(api.EEq, rep(cell(0, choice(fixed))), rep(choice(of(api.EEq, rep(variable(0)), rep(vertex(2))))))), 0)},
		{made(every(moved), 4, 0, 2), made(every(of(api.EEq, rep(variable(0)), rep(vertex(2)))), 4, 0, 2)},
	} {
		wantPassed(t, reps, x.from, x.to)
	}
}

// The greatest plans that there are; what comes of them may be more than a plan may have.
func TestZ1GreatPlans(t *testing.T) {
	joined := func(many int) api.Node {
		n := call(api.CallConnected, variable(0), vertex(1))
		for i := 1; i < many; i++ {
			n = of(api.EAnd, n, call(api.CallConnected, variable(0), vertex(1+i%5)))
		}
		return quant(api.QuantAll, all, n)
	}
	for _, x := range []struct {
		many  int
		right bool
	}{{200, true}, {682, true}, {683, false}, {1023, false}} {
		p := made(joined(x.many))
		got, is := passed(t, reps, p)
		if !is || countParts(got.Root) != 1+6*x.many || plan.Right(got) != x.right {
			t.Errorf("%d: %d parts, %v", x.many, countParts(got.Root), is)
		}
	}
	deep := func(n api.Node) api.Node {
		return of(api.EIf, call(api.CallConnected, n, vertex(1)), vertex(2), vertex(3))
	}
	p := made(quant(api.QuantSum, all, call(api.CallSize, chain(818, variable(0), deep))))
	if got, is := passed(t, reps, p); !is || countParts(got.Root) != 4+818*7 {
		t.Errorf("%d parts, %v", countParts(got.Root), is)
	}
}

// wrongPlans is what is not right, however little is wrong with it, and wherever.
func wrongPlans() []api.Plan {
	one, yes := integer(1), boolean(1)
	size := call(api.CallSize, vertex(1))
	return []api.Plan{
		{}, made(all), made(of(api.EAdd, one)), made(of(api.EAdd, one, yes)), made(of(api.ENot)), made(boolean(2)), made(vertex(-1)), made(variable(0)), made(variable(-1)), made(of(api.EIf, yes, one, yes)),
		made(call(0, vertex(1))), made(call(11, vertex(1))), made(call(api.CallSize)), made(call(api.CallSize, vertex(1), vertex(1))), made(call(api.CallSize, one)), made(call(api.CallConnected, vertex(1))), made(quant(api.QuantAll, all, call(api.CallConnected, vertex(1)))), made(quant(api.QuantAll, all, call(api.CallConnected))), made(call(api.CallSize, variable(0))), made(of(api.EAdd, call(api.CallSize), call(api.CallSize))),
		made(quant(0, all, yes)), made(quant(7, all, one)), made(quant(api.QuantSum, all)), made(quant(api.QuantSum, all, size, size)), made(quant(api.QuantSum, size, size)), made(quant(api.QuantAll, all, size)), made(quant(api.QuantSum, all, call(api.CallSize, variable(1)))), made(quant(api.QuantSum, setName("in"), size)), made(quant(api.QuantSum, of(api.ESetAround, variable(0)), size)),
		made(cell(0, one)), made(cell(1, one), 0), made(cell(0, one), 1), made(cell(0, one), -1), made(cell(0, one), 5), made(one, 5), made(one, -1), made(cell(0), 0), made(cell(0, all), 0), made(quant(api.QuantSum, all, cell(0, call(api.CallSize, variable(0)))), 0),
		made(quant(api.QuantSum, all, of(api.EAdd, cell(0, size), cell(0, one))), 0), made(one, make([]int, 257)...), made(chain(5, size, func(n api.Node) api.Node { return quant(api.QuantSum, all, n) })),
		made(api.Node{Kind: api.EInt, Name: "v"}), made(api.Node{Kind: api.EName, Name: "v"}), made(api.Node{Kind: 27}), made(api.Node{Kind: -1}),
	}
}

func TestZ1WrongPlans(t *testing.T) {
	for _, p := range wrongPlans() {
		if _, is := passed(t, reps, p); is {
			t.Errorf("was taken: %s", told(p))
		}
	}
}

// plansWithoutEnd are within themselves, or have more parts than there may be.
func plansWithoutEnd() []api.Plan {
	kids := make([]api.Node, 2)
	kids[0] = of(api.EIf, call(api.CallConnected), vertex(1), vertex(1))
	kids[0].Kids[0].Kids = kids
	kids[1] = vertex(1)
	wide := call(api.CallSize, vertex(1))
	for range 60 {
		wide = of(api.EAdd, wide, wide)
	}
	bodies := []api.Node{all, {Kind: api.EQuant, N: api.QuantSum}}
	bodies[1].Kids = bodies
	rep := func(n api.Node) api.Node { return call(api.CallRep, n) }
	return []api.Plan{made(kids[0]), made(wide), made(bodies[1]), made(chain(4096, vertex(1), rep)), made(quant(api.QuantSum, all, call(api.CallSize, kids[0]))), made(quant(api.QuantSum, all, wide))}
}

func TestZ1PlansWithoutEnd(t *testing.T) {
	for _, p := range plansWithoutEnd() {
		if got, err := share.Reps(p); err != api.ErrPlanForm || !same(got, api.Plan{}) {
			t.Errorf("%d", err)
		}
	}
}

func TestZ1DrawnPlans(t *testing.T) {
	right, wrong, changed := 0, 0, 0
	for _, d := range []*drawn{drawing(0, 0, 0), drawing(20, 15, 0), drawing(30, 30, 0), drawing(10, 5, 2)} {
		for i := range 4000 {
			p := d.plan(1+i%3, 3+i%7)
			got, is := passed(t, reps, p)
			if !is {
				wrong++
				continue
			}
			right++
			changed += countParts(got.Root) - countParts(p.Root)
		}
	}
	if right < 12000 || wrong < 400 || changed < 9000 {
		t.Errorf("%d, %d, %d", right, wrong, changed)
	}
}
