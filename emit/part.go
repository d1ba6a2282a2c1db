package emit

import "isthmus/api"

// spot is where a part stands.
type spot struct {
	around int // quantifiers in whose bodies it is
	under  int // values on the stack when it is come to
}

// over is the spot with so many values more under it.
func (s spot) over(values int) spot {
	s.under += values
	return s
}

// part lays the words of a part of a right plan.
func (w *writer) part(n api.Node, at spot) {
	switch n.Kind {
	case api.EInt, api.EBool:
		w.constant(n.N, kindOf(n), at)
	case api.EVertex:
		w.push(api.OpVertex, w.constPlace(n.N), 0, at)
	case api.EVar:
		w.push(api.OpVar, n.N, 0, at)
	case api.EAnd:
		w.connective(n, api.OpFalse, 0, at)
	case api.EOr:
		w.connective(n, api.OpTrue, 1, at)
	case api.EIf:
		w.part(n.Kids[0], at)
		w.fork(api.OpFalse, func() { w.part(n.Kids[1], at) }, func() { w.part(n.Kids[2], at) })
	case api.ECell:
		w.cell(n, at)
	case api.EQuant:
		w.quantifier(n, at)
	default:
		for i, kid := range n.Kids {
			w.part(kid, at.over(i))
		}
		w.operation(n)
	}
}

// connective is told by which worth of its left kid settles it, and by the operation that leads on then.
func (w *writer) connective(n api.Node, leads, settles int, at spot) {
	w.part(n.Kids[0], at)
	w.fork(leads, func() { w.part(n.Kids[1], at) }, func() { w.constant(settles, api.KindBool, at) })
}

func (w *writer) cell(n api.Node, at spot) {
	w.code.Cells[n.N] = kindOf(n)
	defer w.land(w.lay(api.OpFetch, n.N, 0))
	w.part(n.Kids[0], at)
	w.lay(api.OpKeep, n.N, 0)
}

// operation lays what is done with the worths of a part's kids.
func (w *writer) operation(n api.Node) {
	switch n.Kind {
	case api.EEq:
		w.lay(api.OpEq, 0, kindOf(n.Kids[0]))
	case api.ENe:
		w.lay(api.OpEq, 0, kindOf(n.Kids[0]))
		w.lay(api.OpNot, 0, 0)
	case api.ELess:
		w.lay(api.OpLess, 0, 0)
	case api.EAtMost:
		w.lay(api.OpLess, 0, 1)
	case api.ECall:
		w.lay(api.OpCall, n.N, 0)
	case api.ESetName:
		w.lay(api.OpNamed, w.namePlace(n.Name), 0)
	case api.ESetList:
		w.lay(api.OpList, len(n.Kids), 0)
	default:
		w.lay(bare[n.Kind], 0, 0)
	}
}

// bare are the operations without numbers, by the kinds of the parts that are done by them alone.
var bare = [...]int{
	api.ENeg:       api.OpNeg,
	api.ENot:       api.OpNot,
	api.EAdd:       api.OpAdd,
	api.ESub:       api.OpSub,
	api.EMul:       api.OpMul,
	api.EDiv:       api.OpDiv,
	api.ERem:       api.OpRem,
	api.ESetAll:    api.OpAll,
	api.ESetAround: api.OpAround,
}
