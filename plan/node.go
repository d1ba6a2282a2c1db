package plan

import (
	"slices"

	"isthmus/api"
)

// planned is the node of a typed tree in which these names are bound, by the quantifiers around it from the outermost on.
func planned(e api.Expr, bound []string) api.Node {
	n := api.Node{Kind: e.Kind, N: e.N}
	switch e.Kind {
	case api.EName:
		return api.Node{Kind: api.EVar, N: binder(e.Name, bound)}
	case api.ESetName:
		n.Name = e.Name
	}
	for i, kid := range e.Kids {
		inner := bound
		if e.Kind == api.EQuant && i == 1 {
			inner = append(slices.Clone(bound), e.Name)
		}
		n.Kids = append(n.Kids, planned(kid, inner))
	}
	return n
}

// binder is the number of the innermost quantifier of a name: where two have it, the outer one is out of sight.
func binder(name string, bound []string) int {
	number := len(bound) - 1
	for bound[number] != name {
		number--
	}
	return number
}

func sameNode(a, b api.Node) bool {
	return a.Kind == b.Kind && a.N == b.N && a.Name == b.Name && slices.EqualFunc(a.Kids, b.Kids, sameNode)
}
