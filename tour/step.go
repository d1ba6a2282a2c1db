package tour

import "isthmus/api"

// step is two vertices: from the one a tour goes to the other. A stop goes from its vertex to itself.
type step [2]int

const (
	from = 0
	to   = 1
)

// isStop asks whether one stays where it is.
func (s step) isStop() bool {
	return s[from] == s[to]
}

// has asks whether there is such a vertex.
func (t *Tours) has(v int) bool {
	return v >= 0 && v < len(t.stops)
}

// edge is the nodes of the two steps between vertices.
func (t *Tours) edge(u, v int) (int, int, api.Errno) {
	if !t.has(u) || !t.has(v) {
		return 0, 0, api.ErrTourVertex
	}
	there, is := t.steps[step{u, v}]
	if !is {
		return 0, 0, api.ErrTourEdge
	}
	return there, t.steps[step{v, u}], api.OK
}

// node is a new one, alone, for a stop or a step. There is room for one of each that may be.
func (t *Tours) node(s step, counts bool) int {
	h, _ := t.nodes.Make(api.Item{Counts: counts})
	t.goes[h] = s
	return h
}

// take is a new node for a step of an edge.
func (t *Tours) take(s step) int {
	h := t.node(s, false)
	t.steps[s] = h
	return h
}

// drop lets a step go, which is alone.
func (t *Tours) drop(h int) {
	delete(t.steps, t.goes[h])
	delete(t.goes, h)
	t.nodes.Free(h)
}

// place is where in its tour a node stands.
func (t *Tours) place(h int) int {
	n, _ := t.nodes.Rank(h)
	return n
}

// cutAhead cuts a tour right ahead of a node, and answers one of what stood there. It is 0, if nothing did: joining no node changes nothing.
func (t *Tours) cutAhead(h int) int {
	first, _ := t.nodes.At(h, 0)
	if first == h {
		return 0
	}
	t.nodes.Split(h)
	return first
}

// cutBehind cuts a tour right behind a node, and answers as cutAhead does.
func (t *Tours) cutBehind(h int) int {
	next, e := t.nodes.At(h, t.place(h)+1)
	if e != api.OK {
		return 0
	}
	t.nodes.Split(next)
	return next
}

// flag lays one of a node's flags, or takes it away.
func (t *Tours) flag(h, mark int, on bool) {
	item, _ := t.nodes.Get(h)
	item.Flags &^= mark
	if on {
		item.Flags |= mark
	}
	t.nodes.Set(h, item)
}

// flagged is the first stop or step of a vertex's tour that has a flag.
func (t *Tours) flagged(v, mark int) (step, api.Errno) {
	if !t.has(v) {
		return step{}, api.ErrTourVertex
	}
	h, e := t.nodes.Flagged(t.stops[v], mark)
	if e != api.OK {
		return step{}, api.ErrTourMark
	}
	return t.goes[h], api.OK
}
