package hoist

import (
	"isthmus/api"
	"isthmus/node"
)

// walk goes through a plan, in whose new cells what it comes to is kept.
type walk struct {
	open func(hangs int) (cell int, is bool) // a new cell, while there is room for one
}

// through is a node in memory of its own, gone through with a reach, where so many quantifiers are around it.
func (w walk) through(n api.Node, around, reach int) api.Node {
	switch n.Kind {
	case api.ECell:
		return node.Copy(n) // to go into it would make kids of one cell that are not the same
	case api.ECall, api.EQuant:
		hangs := node.Hangs(n, around)
		if hangs >= reach {
			break
		}
		if cell, is := w.open(hangs); is {
			return api.Node{Kind: api.ECell, N: cell, Kids: []api.Node{w.inside(n, around, hangs)}}
		}
	}
	return w.inside(n, around, reach)
}

// inside is a node that stays what it is, with its kids gone through.
func (w walk) inside(n api.Node, around, reach int) api.Node {
	var kids []api.Node
	for i, kid := range n.Kids {
		if n.Kind == api.EQuant && i == 1 {
			around++
			reach = around // each vertex may change what the body is
		}
		kids = append(kids, w.through(kid, around, reach))
	}
	n.Kids = kids
	return n
}
