package linkcut

import "isthmus/api"

// The sides of a node: what hangs there stands above it on its path (nearer to the root of the vertices' tree), or below it.
const (
	above = 0
	below = 1
)

// node is what vertices and edges have alike. Each tree of vertices is taken apart into paths that lead down, on which vertices and edges stand by turns; each path is a binary tree of nodes, in the order from above to below.
type node struct {
	up       *node // what it hangs on; at the top of a path's tree: the node that the whole path hangs below, at none of its sides
	sides    [2]*node
	turned   bool    // it and all below it in the path's tree stand the other way round
	vertex   *vertex // whose node it is: one of these two
	edge     *edge
	heaviest *edge // of it and all below it in the path's tree
}

// vertex is a node that has a number.
type vertex struct {
	node
	number int
}

// edge is a node that is told by what Link was given.
type edge struct {
	node
	api.Edge
}

func newVertex(number int) *vertex {
	v := &vertex{number: number}
	v.vertex = v
	return v
}

func newEdge(x api.Edge) *edge {
	e := &edge{Edge: x}
	e.edge, e.heaviest = e, e
	return e
}

// heavier is that one of two edges; nil is none.
func heavier(e, f *edge) *edge {
	switch {
	case e == nil:
		return f
	case f == nil:
		return e
	case e.Weight > f.Weight, e.Weight == f.Weight && e.ID > f.ID:
		return e
	}
	return f
}

// reckon finds a node's heaviest edge anew, out of those right below it in its path's tree.
func (n *node) reckon() {
	n.heaviest = n.edge
	for _, side := range n.sides {
		if side != nil {
			n.heaviest = heavier(n.heaviest, side.heaviest)
		}
	}
}

// settle turns a node round if it is to be, and leaves the rest to those right below it in its path's tree.
func (n *node) settle() {
	if !n.turned {
		return
	}
	n.turned = false
	n.sides[above], n.sides[below] = n.sides[below], n.sides[above]
	for _, side := range n.sides {
		if side != nil {
			side.turned = !side.turned
		}
	}
}

// isTop asks whether a node is at the top of its path's tree.
func (n *node) isTop() bool {
	return n.up == nil || n.up.sides[above] != n && n.up.sides[below] != n
}

// side is at which one a node hangs that is not at the top.
func (n *node) side() int {
	if n.up.sides[above] == n {
		return above
	}
	return below
}

// hang lays a node, or none, at a side of another one.
func (n *node) hang(side int, other *node) {
	n.sides[side] = other
	if other != nil {
		other.up = n
	}
}

// turn changes a node's place with the one that it hangs on; the order of the path stays. Both must be settled.
func (n *node) turn() {
	up, side := n.up, n.side()
	if up.isTop() {
		n.up = up.up
	} else {
		up.up.hang(up.side(), n)
	}
	up.hang(side, n.sides[1-side])
	n.hang(1-side, up)
	up.reckon()
	n.reckon()
}

// lift turns a path's tree about till a node is at its top, and settled.
func (n *node) lift() {
	for !n.isTop() {
		up := n.up
		if up.isTop() {
			up.settle()
			n.settle()
			n.turn()
			continue
		}
		up.up.settle()
		up.settle()
		n.settle()
		// So the ways to all that were near it become half as long: trees stay shallow in the long run.
		if n.side() == up.side() {
			up.turn()
		} else {
			n.turn()
		}
		n.turn()
	}
	n.settle()
}

// expose makes one path of the root and all down to a node, which is the last of it, and at the top.
func (n *node) expose() {
	var rest *node
	for at := n; at != nil; at = at.up {
		at.lift()
		at.sides[below] = rest // what stood there hangs below it as a path of its own
		at.reckon()
		rest = at
	}
	n.lift()
}

// evert makes a node the root: the path to it leads the other way.
func (n *node) evert() {
	n.expose()
	n.turned = true
}

// root is the first one of the path down to a node.
func (n *node) root() *node {
	n.expose()
	first := n
	for first.sides[above] != nil {
		first = first.sides[above]
		first.settle()
	}
	first.lift()
	return first
}

// cutAbove makes a node the root of all that hangs below it, apart from the rest.
func (n *node) cutAbove() {
	n.expose()
	if rest := n.sides[above]; rest != nil {
		rest.up = nil
		n.sides[above] = nil
		n.reckon()
	}
}

// edges are the IDs of those that stand on a path, from above on; the node is at the top of its tree.
func (n *node) edges() []int {
	var ids []int
	var waiting []*node // those with a side above that is not all told yet
	for at := n; at != nil || len(waiting) > 0; {
		if at != nil {
			at.settle()
			waiting = append(waiting, at)
			at = at.sides[above]
			continue
		}
		last := len(waiting) - 1
		at = waiting[last]
		waiting = waiting[:last]
		if at.edge != nil {
			ids = append(ids, at.edge.ID)
		}
		at = at.sides[below]
	}
	return ids
}
