package msf

import (
	"iter"

	"isthmus/api"
)

// edge is one that is there.
type edge struct {
	api.Edge
	spans bool // it is one of the least spanning forest
}

// heavier asks whether the first of two edges is that one.
func heavier(x, y api.Edge) bool {
	return x.Weight > y.Weight || x.Weight == y.Weight && x.ID > y.ID
}

// settle takes a new edge into the forest, if it is not the heaviest one of the ring that it would close there; if another one is, that one goes.
func (f *Forest) settle(x api.Edge) {
	most, e := f.trees.Most(x.U, x.V)
	if e != api.OK { // there was no way between its ends: it closes no ring
		f.span(x)
		return
	}
	if heavier(x, most) {
		f.edges[x.ID] = edge{Edge: x}
		return
	}
	f.trees.Cut(most.ID)
	f.edges[most.ID] = edge{Edge: most}
	f.span(x)
}

// span makes an edge one of the forest; it leads from one tree to another.
func (f *Forest) span(x api.Edge) {
	f.trees.Link(x.U, x.V, x.ID, x.Weight)
	f.edges[x.ID] = edge{Edge: x, spans: true}
}

// mend takes the least heavy edge into the forest that leads out of a vertex's tree, if there is one: an edge went there.
func (f *Forest) mend(v int) {
	var least api.Edge
	found := false
	for x := range f.crossing(v) {
		if !found || heavier(least, x) {
			least, found = x, true
		}
	}
	if found {
		f.span(least)
	}
}

// crossing tells the edges that lead out of a vertex's tree, in whatever order.
func (f *Forest) crossing(v int) iter.Seq[api.Edge] {
	return func(yield func(api.Edge) bool) {
		for _, x := range f.edges {
			if f.leaves(v, x.Edge) && !yield(x.Edge) {
				return
			}
		}
	}
}

// leaves asks whether an edge has one end in a vertex's tree and one outside of it.
func (f *Forest) leaves(v int, x api.Edge) bool {
	from, _ := f.trees.Same(v, x.U)
	to, _ := f.trees.Same(v, x.V)
	return from != to
}
