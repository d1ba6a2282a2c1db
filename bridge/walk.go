package bridge

import (
	"slices"

	"isthmus/api"
)

// none stands in place of an edge where a walk begins.
const none = -1

// step leads over an edge of the list to one of its ends.
type step struct {
	edge, to int
}

// place is what a walk knows of a vertex.
type place struct {
	steps []step // those that it has not yet taken from here
	by    int    // the edge over which it came; several may lead to where it came from, and only this one is not gone back over
	turn  int    // vertices are counted as it comes to them, from 1 on; 0 as long as it was not here
	low   int    // the least turn that is known to be reached from here, over no edge twice
}

// walk goes through a graph, as far as it can ahead of going back. When it goes back from a vertex whence nothing earlier is reached, what is still open from there on is a block, and the edge over which it came is a bridge.
type walk struct {
	places  []place
	turns   int
	path    []int // the explicit stack: from where it began to where it stands
	open    []int // the vertices whose block is not yet known, in the order of their turns
	edges   []api.Edge
	bridges []int
	block   []int
}

func newWalk(n int, l []api.Edge) *walk {
	w := &walk{places: make([]place, n), edges: l, block: make([]int, n)}
	for i, x := range l {
		w.places[x.U].steps = append(w.places[x.U].steps, step{i, x.V})
		w.places[x.V].steps = append(w.places[x.V].steps, step{i, x.U})
	}
	return w
}

// seen asks whether it was at a vertex.
func (w *walk) seen(v int) bool {
	return w.places[v].turn > 0
}

// through goes through the component of a vertex.
func (w *walk) through(v int) {
	w.enter(v, none)
walking:
	for {
		for w.stuck() {
			w.leave()
			if len(w.path) == 0 {
				break walking
			}
		}
		w.advance()
	}
}

// enter comes to a vertex for the first time, over an edge.
func (w *walk) enter(v, by int) {
	w.turns++
	p := &w.places[v]
	p.by, p.turn, p.low = by, w.turns, w.turns
	w.path = append(w.path, v)
	w.open = append(w.open, v)
}

// here is where it stands.
func (w *walk) here() int {
	return w.path[len(w.path)-1]
}

// stuck asks whether all steps from here are taken.
func (w *walk) stuck() bool {
	return len(w.places[w.here()].steps) == 0
}

// advance takes the next step from here.
func (w *walk) advance() {
	p := &w.places[w.here()]
	s := p.steps[0]
	p.steps = p.steps[1:]
	switch {
	case s.edge == p.by: // back over it is no way without it
	case w.seen(s.to):
		p.low = min(p.low, w.places[s.to].turn)
	default:
		w.enter(s.to, s.edge)
	}
}

// leave goes back from here.
func (w *walk) leave() {
	v := w.here()
	p := w.places[v]
	w.path = w.path[:len(w.path)-1]
	if p.low < p.turn { // never so where it began: nothing is earlier there
		back := &w.places[w.here()]
		back.low = min(back.low, p.low)
		return
	}
	w.shut(v)
	if p.by != none {
		w.bridges = append(w.bridges, w.edges[p.by].ID)
	}
}

// shut makes a block of the vertices that are open from one on.
func (w *walk) shut(first int) {
	from := slices.Index(w.open, first)
	least := slices.Min(w.open[from:])
	for _, v := range w.open[from:] {
		w.block[v] = least
	}
	w.open = w.open[:from]
}
