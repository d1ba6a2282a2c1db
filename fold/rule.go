package fold

import (
	"isthmus/api"
	"isthmus/reckon"
)

// ruled is what the first rule that holds makes of a node whose kids are folded; the node itself, if none does.
func ruled(n api.Node) api.Node {
	switch n.Kind {
	case api.ENeg, api.ENot, api.EAdd, api.ESub, api.EMul, api.EDiv, api.ERem, api.EEq, api.ENe, api.ELess, api.EAtMost:
		return operation(n)
	case api.EAnd:
		return connective(n, 0)
	case api.EOr:
		return connective(n, 1)
	case api.EIf:
		return choice(n)
	case api.EQuant:
		return quantifier(n)
	case api.ECell:
		if isConstant(n.Kids[0]) {
			return n.Kids[0]
		}
	}
	return n
}

func operation(n api.Node) api.Node {
	left, right := n.Kids[0], n.Kids[len(n.Kids)-1]
	if isConstant(left) && isConstant(right) {
		if worth, fault := reckon.Worth(n.Kind, left.N, right.N); fault == reckon.NoFault {
			return api.Node{Kind: constantKind(n.Kind), N: worth}
		}
	}
	switch n.Kind {
	case api.ENot:
		if left.Kind == api.ENot {
			return left.Kids[0]
		}
	case api.EAdd:
		if isNumber(left, 0) {
			return right
		}
		fallthrough
	case api.ESub:
		if isNumber(right, 0) {
			return left
		}
	case api.EMul:
		if isNumber(left, 1) {
			return right
		}
		fallthrough
	case api.EDiv:
		if isNumber(right, 1) {
			return left
		}
	}
	return n
}

// constantKind is the kind of the constant that an operation's worth is.
func constantKind(operation int) int {
	switch operation {
	case api.ENeg, api.EAdd, api.ESub, api.EMul, api.EDiv, api.ERem:
		return api.EInt
	}
	return api.EBool
}

// connective is told by which worth of its left kid settles it. A right kid that would settle it doesn't: the left one may come to a fault first.
func connective(n api.Node, settles int) api.Node {
	left, right := n.Kids[0], n.Kids[1]
	switch {
	case isTruth(left, settles):
		return left
	case isTruth(left, 1-settles):
		return right
	case isTruth(right, 1-settles):
		return left
	}
	return n
}

func choice(n api.Node) api.Node {
	switch {
	case isTruth(n.Kids[0], 1):
		return n.Kids[1]
	case isTruth(n.Kids[0], 0):
		return n.Kids[2]
	}
	return n
}

// quantifier looks at two sets alone: to ask for another one may come to a fault.
func quantifier(n api.Node) api.Node {
	set, body := n.Kids[0], n.Kids[1]
	empty := set.Kind == api.ESetList && len(set.Kids) == 0
	if empty || set.Kind == api.ESetAll && isIdle(n.N, body) {
		return unmoved(n)
	}
	return n
}

// isIdle asks whether a body, at however many vertices, leaves its quantifier at what that is worth of none.
func isIdle(which int, body api.Node) bool {
	switch which {
	case api.QuantAll:
		return isTruth(body, 1)
	case api.QuantSome, api.QuantCount:
		return isTruth(body, 0)
	}
	return false
}

// unmoved is what a quantifier is worth of no vertex: the least and the most are a fault then, which is to be asked for.
func unmoved(n api.Node) api.Node {
	switch n.N {
	case api.QuantAll:
		return api.Node{Kind: api.EBool, N: 1}
	case api.QuantSome:
		return api.Node{Kind: api.EBool, N: 0}
	case api.QuantCount, api.QuantSum:
		return api.Node{Kind: api.EInt, N: 0}
	}
	return n
}

func isConstant(n api.Node) bool { return n.Kind == api.EInt || n.Kind == api.EBool }

func isNumber(n api.Node, worth int) bool { return n.Kind == api.EInt && n.N == worth }

func isTruth(n api.Node, worth int) bool { return n.Kind == api.EBool && n.N == worth }
