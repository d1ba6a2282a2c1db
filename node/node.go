// Package node is what layers that take plans apart have in common.
package node

import "isthmus/api"

// Around is how many quantifiers are around one of a node's kids, where so many are around the node: a quantifier is around its body, and not around its set.
func Around(n api.Node, kid, around int) int {
	if n.Kind == api.EQuant && kid == 1 {
		return around + 1
	}
	return around
}

// Hangs is on how many of the quantifiers around it, the outermost ones, a node hangs. The variables of those within it have greater numbers.
func Hangs(n api.Node, around int) int {
	most := 0
	if n.Kind == api.EVar && n.N < around {
		most = n.N + 1
	}
	for _, kid := range n.Kids {
		most = max(most, Hangs(kid, around))
	}
	return most
}

// Copy is a node in memory of its own.
func Copy(n api.Node) api.Node {
	var kids []api.Node
	for _, kid := range n.Kids {
		kids = append(kids, Copy(kid))
	}
	n.Kids = kids
	return n
}
