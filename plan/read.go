package plan

import (
	"slices"

	"isthmus/api"
	"isthmus/lex"
	"isthmus/node"
)

// reader lays parts out of nodes, as long as these are right.
type reader struct {
	cells []int
	kids  map[int]api.Node // by cells: the kid of the first ECell that was come to
	many  int              // nodes up to now
}

// spot is where a node stands.
type spot struct {
	around int // quantifiers in whose bodies it is
	within int // quantifiers in which it is at all: in their sets, too
}

// read is the root of a plan, if the plan is right.
func read(p api.Plan) (part, bool) {
	if len(p.Cells) > api.MaxCells || slices.ContainsFunc(p.Cells, isNoLevel) {
		return nil, false
	}
	r := &reader{cells: p.Cells, kids: map[int]api.Node{}}
	root, is := r.part(p.Root, spot{})
	if !is || root.kind() == kindSet {
		return nil, false
	}
	return root, true
}

// isNoLevel asks whether no cell may hang on so many quantifiers.
func isNoLevel(n int) bool { return n < 0 || n > api.MaxQuants }

// part is that of a node, if all is right from it on.
func (r *reader) part(n api.Node, at spot) (part, bool) {
	r.many++
	if r.many > api.MaxNodes || at.within > api.MaxQuants || !holdsName(n) || !r.holdsNumber(n, at) {
		return nil, false
	}
	var kids []part
	var kinds []int
	for i, kid := range n.Kids {
		p, is := r.part(kid, at.ofKid(n, i))
		if !is {
			return nil, false
		}
		kids, kinds = append(kids, p), append(kinds, p.kind())
	}
	f := formOf(n, kinds)
	if f.is == kindNone || !slices.Equal(f.kids, kinds) || n.Kind == api.ECell && !r.keeps(n, at) {
		return nil, false
	}
	return laid(n, typed{f.is}, kids, at.around), true
}

// ofKid is where a node's kid stands: a quantifier is around its body alone.
func (s spot) ofKid(n api.Node, kid int) spot {
	if n.Kind != api.EQuant {
		return s
	}
	s.within++
	if kid > 0 {
		s.around++
	}
	return s
}

func holdsName(n api.Node) bool {
	if n.Kind == api.ESetName {
		return lex.IsName(n.Name)
	}
	return n.Name == ""
}

func (r *reader) holdsNumber(n api.Node, at spot) bool {
	switch n.Kind {
	case api.EInt:
		return true
	case api.EBool:
		return n.N == 0 || n.N == 1
	case api.EVertex:
		return n.N >= 0
	case api.EVar:
		return n.N >= 0 && n.N < at.around
	case api.ECall:
		return n.N >= api.CallConnected && n.N <= api.CallRep
	case api.EQuant:
		return n.N >= api.QuantAll && n.N <= api.QuantMax
	case api.ECell:
		return n.N >= 0 && n.N < len(r.cells)
	}
	return n.N == 0
}

// keeps asks whether what an ECell keeps stays true as long as it is kept, wherever it was kept.
func (r *reader) keeps(n api.Node, at spot) bool {
	kid, level := n.Kids[0], r.cells[n.N]
	if level > at.around || node.Hangs(kid, at.around) > level {
		return false
	}
	first, is := r.kids[n.N]
	if !is {
		r.kids[n.N] = kid
		return true
	}
	return sameNode(first, kid)
}

// laid is the part of a right node, of a kind and with kids.
func laid(n api.Node, t typed, kids []part, around int) part {
	switch n.Kind {
	case api.EInt, api.EBool:
		return constant{t, n.N}
	case api.EVertex:
		return vertex{t, n.N}
	case api.EVar:
		return variable{t, n.N}
	case api.EAnd:
		return connective{t, 0, kids[0], kids[1]}
	case api.EOr:
		return connective{t, 1, kids[0], kids[1]}
	case api.EIf:
		return choice{t, kids[0], kids[1], kids[2]}
	case api.ECall:
		return call{t, n.N, kids}
	case api.EQuant:
		return quantifier{t, n.N, around, kids[0], kids[1]}
	case api.ECell:
		return cell{t, n.N, kids[0]}
	case api.ESetAll:
		return allSet{t}
	case api.ESetName:
		return namedSet{t, n.Name}
	case api.ESetAround:
		return aroundSet{t, kids[0]}
	case api.ESetList:
		return listSet{t, kids}
	}
	return operation{t, n.Kind, kids}
}
