package hoist_test

import (
	"slices"
	"testing"

	"isthmus/api"
	"isthmus/hoist"
	"isthmus/plan"
)

// place is a part where it stands: a kid of the one above it.
type place struct {
	part  api.Node
	above *place
	kid   int
	below []*place
	reach int
	cell  int // which new one it is in; -1, if it is in none
}

// placesOf is all parts, each ahead of its kids, those from the left, each wholly ahead of the next one.
func placesOf(n api.Node, above *place, kid int) []*place {
	p := &place{part: n, above: above, kid: kid, cell: -1}
	places := []*place{p}
	for i, x := range n.Kids {
		inner := placesOf(x, p, i)
		p.below = append(p.below, inner[0])
		places = append(places, inner...)
	}
	return places
}

// around counts the quantifiers in whose bodies a place is.
func (p *place) around() int {
	many := 0
	for ; p.above != nil; p = p.above {
		if p.above.part.Kind == api.EQuant && p.kid == 1 {
			many++
		}
	}
	return many
}

func (p *place) hangs() int { return hangsOn(p.part, p.around()) }

// inCell asks whether a place is an ECell, or in one.
func (p *place) inCell() bool {
	for ; p != nil; p = p.above {
		if p.part.Kind == api.ECell {
			return true
		}
	}
	return false
}

// findReach is what the chapter says of a kid's reach, when all ahead of it were gone through.
func (p *place) findReach() int {
	switch {
	case p.above == nil:
		return 0
	case p.above.part.Kind == api.EQuant && p.kid == 1:
		return p.above.around() + 1
	case p.above.cell >= 0:
		return p.above.hangs()
	}
	return p.above.reach
}

// plainHoist is what Hoist answers of a right plan.
func plainHoist(p api.Plan) api.Plan {
	places := placesOf(p.Root, nil, 0)
	cells := append([]int(nil), p.Cells...)
	for _, x := range places {
		if x.inCell() {
			continue
		}
		x.reach = x.findReach()
		may := x.part.Kind == api.ECall || x.part.Kind == api.EQuant
		if may && x.hangs() < x.reach && len(cells) < 256 {
			x.cell = len(cells)
			cells = append(cells, x.hangs())
		}
	}
	return api.Plan{Root: places[0].built(), Cells: cells}
}

// built is what became of a part.
func (p *place) built() api.Node {
	n := api.Node{Kind: p.part.Kind, N: p.part.N, Name: p.part.Name}
	for _, x := range p.below {
		n.Kids = append(n.Kids, x.built())
	}
	if p.cell < 0 {
		return n
	}
	return api.Node{Kind: api.ECell, N: p.cell, Kids: []api.Node{n}}
}

// same holds plans to one another without the layer below.
func same(a, b api.Plan) bool {
	return spelled(a.Root) == spelled(b.Root) && slices.Equal(a.Cells, b.Cells)
}

// hoisted is what Hoist answers, which must be what the plain way answers; false, if the plan is not right.
func hoisted(t *testing.T, p api.Plan) (api.Plan, bool) {
	t.Helper()
	got, err := hoist.Hoist(p)
	if !plan.Right(p) {
		if err != api.ErrPlanForm || !same(got, api.Plan{}) {
			t.Fatalf("%d, %s of %s", err, told(got), told(p))
		}
		return got, false
	}
	if want := plainHoist(p); err != api.OK || !same(got, want) {
		t.Fatalf("%s became %d, %s; wanted %s", told(p), err, told(got), told(want))
	}
	return got, true
}

// wantHoisted holds both ways to what is said of a plan.
func wantHoisted(t *testing.T, p, want api.Plan) {
	t.Helper()
	if got, is := hoisted(t, p); !is || !same(got, want) {
		t.Errorf("%s became %s; wanted %s", told(p), told(got), told(want))
	}
}

func wantStays(t *testing.T, p api.Plan) {
	t.Helper()
	wantHoisted(t, p, p)
}
