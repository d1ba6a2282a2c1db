package share_test

import (
	"slices"
	"testing"

	"isthmus/api"
	"isthmus/plan"
	"isthmus/share"
)

// place is a part where it stands: a kid of the one above it.
type place struct {
	part  api.Node
	above *place
	kid   int
	below []*place
	cell  int // which new one it is in; -1, if it is in none
}

// placesOf is all parts, each ahead of its kids, those from the left, each wholly ahead of the next one.
func placesOf(n api.Node, above *place, kid int) []*place {
	p := &place{part: n, above: above, kid: kid, cell: -1}
	places := []*place{p}
	for i, x := range n.Kids {
		inner := placesOf(x, p, i)
		p.below = append(p.below, inner[0])
		places = append(places, inner...)
	}
	return places
}

// around counts the quantifiers in whose bodies a place is.
func (p *place) around() int {
	many := 0
	for ; p.above != nil; p = p.above {
		if p.above.part.Kind == api.EQuant && p.kid == 1 {
			many++
		}
	}
	return many
}

func (p *place) hangs() int { return hangsOn(p.part, p.around()) }

// in asks whether one of the places above is so.
func (p *place) in(is func(*place) bool) bool {
	for p = p.above; p != nil; p = p.above {
		if is(p) {
			return true
		}
	}
	return false
}

func (p *place) free() bool {
	return !p.in(func(x *place) bool { return x.part.Kind == api.ECell })
}

// freeCalls is all places of a plan that are free ECalls, in their order.
func freeCalls(places []*place) []*place {
	var calls []*place
	for _, x := range places {
		if x.part.Kind == api.ECall && x.free() {
			calls = append(calls, x)
		}
	}
	return calls
}

// plainReps is what Reps answers of a right plan.
func plainReps(p api.Plan) api.Plan {
	return api.Plan{Root: placesOf(p.Root, nil, 0)[0].represented(), Cells: append([]int(nil), p.Cells...)}
}

func (p *place) represented() api.Node {
	n := api.Node{Kind: p.part.Kind, N: p.part.N, Name: p.part.Name}
	if n.Kind == api.ECall && n.N == api.CallConnected && p.free() && p.around() > 0 {
		return of(api.EEq, call(api.CallRep, p.below[0].represented()), call(api.CallRep, p.below[1].represented()))
	}
	for _, x := range p.below {
		n.Kids = append(n.Kids, x.represented())
	}
	return n
}

// alike tells apart by the chapter's words all free calls, by numbers: those of one number are alike.
func alike(calls []*place) map[*place]int {
	type key struct {
		text  string
		hangs int
	}
	numbers, first := map[*place]int{}, map[key]int{}
	for _, x := range calls {
		k := key{spelled(x.part), x.hangs()}
		if _, is := first[k]; !is {
			first[k] = len(first)
		}
		numbers[x] = first[k]
	}
	return numbers
}

// plainShare is what Share answers of a right plan.
func plainShare(p api.Plan) api.Plan {
	places := placesOf(p.Root, nil, 0)
	calls := freeCalls(places)
	number := alike(calls)
	cells := append([]int(nil), p.Cells...)
	for i, x := range calls {
		like := func(y *place) bool { return x != y && number[x] == number[y] }
		if !slices.ContainsFunc(calls, like) || x.in(func(y *place) bool { return y.cell >= 0 }) {
			continue
		}
		for _, y := range calls[:i] {
			if like(y) && y.cell >= 0 {
				x.cell = y.cell
			}
		}
		if x.cell < 0 && len(cells) < 256 {
			x.cell = len(cells)
			cells = append(cells, x.hangs())
		}
	}
	return api.Plan{Root: places[0].kept(), Cells: cells}
}

func (p *place) kept() api.Node {
	if p.cell >= 0 {
		return cell(p.cell, copied(p.part))
	}
	n := api.Node{Kind: p.part.Kind, N: p.part.N, Name: p.part.Name}
	for _, x := range p.below {
		n.Kids = append(n.Kids, x.kept())
	}
	return n
}

// bindsWithin asks whether a variable in a part is bound in it.
func (p *place) bindsWithin() bool {
	around, binds := p.around(), false
	each(&p.part, func(n *api.Node) { binds = binds || n.Kind == api.EVar && n.N >= around })
	return binds
}

// isMixed asks whether parts that are one by the chapters' words, free calls that are alike or ECells of one number, stand in unlike many rounds, and bind a variable: its number means unlike quantifiers then, and they may be worth unlike much. Of such plans the theorem does not hold.
func isMixed(p api.Plan) bool {
	type group struct{ kind, number int }
	places := placesOf(p.Root, nil, 0)
	groups := map[group][]*place{}
	for x, number := range alike(freeCalls(places)) {
		groups[group{api.ECall, number}] = append(groups[group{api.ECall, number}], x)
	}
	for _, x := range places {
		if x.part.Kind == api.ECell {
			groups[group{api.ECell, x.part.N}] = append(groups[group{api.ECell, x.part.N}], x)
		}
	}
	for _, g := range groups {
		for _, x := range g[1:] {
			if x.around() != g[0].around() && (x.bindsWithin() || g[0].bindsWithin()) {
				return true
			}
		}
	}
	return false
}

// same holds plans to one another without the layer below.
func same(a, b api.Plan) bool {
	return spelled(a.Root) == spelled(b.Root) && slices.Equal(a.Cells, b.Cells)
}

// pass is one of the calls, and the plain way to what it answers.
type pass struct {
	name  string
	does  func(api.Plan) (api.Plan, api.Errno)
	plain func(api.Plan) api.Plan
}

var (
	reps   = pass{"Reps", share.Reps, plainReps}
	shares = pass{"Share", share.Share, plainShare}
)

// passed is what a pass answers, which must be what the plain way answers; false, if the plan is not right.
func passed(t *testing.T, x pass, p api.Plan) (api.Plan, bool) {
	t.Helper()
	got, err := x.does(p)
	if !plan.Right(p) {
		if err != api.ErrPlanForm || !same(got, api.Plan{}) {
			t.Fatalf("%s: %d, %s of %s", x.name, err, told(got), told(p))
		}
		return got, false
	}
	if want := x.plain(p); err != api.OK || !same(got, want) {
		t.Fatalf("%s of %s: %d, %s; wanted %s", x.name, told(p), err, told(got), told(want))
	}
	return got, true
}

// wantPassed holds both ways to what is said of a plan.
func wantPassed(t *testing.T, x pass, p, want api.Plan) {
	t.Helper()
	if got, is := passed(t, x, p); !is || !same(got, want) {
		t.Errorf("%s of %s: %s; wanted %s", x.name, told(p), told(got), told(want))
	}
}

func wantStays(t *testing.T, x pass, p api.Plan) {
	t.Helper()
	wantPassed(t, x, p, p)
}
