package share

import (
	"isthmus/api"
	"isthmus/node"
)

// represented is a node in memory of its own, with so many quantifiers around it, whose connections in rounds are asked by representatives.
func represented(n api.Node, around int) api.Node {
	if n.Kind == api.ECell {
		return node.Copy(n) // to go into it might make kids of one cell that are not the same
	}
	var kids []api.Node
	for i, kid := range n.Kids {
		kids = append(kids, represented(kid, node.Around(n, i, around)))
	}
	if n.Kind == api.ECall && n.N == api.CallConnected && around > 0 {
		return api.Node{Kind: api.EEq, Kids: []api.Node{rep(kids[0]), rep(kids[1])}}
	}
	n.Kids = kids
	return n
}

func rep(n api.Node) api.Node {
	return api.Node{Kind: api.ECall, N: api.CallRep, Kids: []api.Node{n}}
}
