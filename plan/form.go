package plan

import (
	"slices"

	"isthmus/api"
)

// Kinds that are this layer's own: of a node that may not be, and of sets, which are worth nothing by themselves.
const (
	kindNone = 0
	kindSet  = api.KindVertex + 1
)

// form is what the kids of a node must be, and what it is itself.
type form struct {
	kids []int
	is   int
}

// formOf is that of a node whose number holds, and whose kids are of these kinds: some of them may be of any kind, and tell then what others must be.
func formOf(n api.Node, kids []int) form {
	switch n.Kind {
	case api.EInt:
		return form{nil, api.KindInt}
	case api.EBool:
		return form{nil, api.KindBool}
	case api.EVertex, api.EVar:
		return form{nil, api.KindVertex}
	case api.ENeg:
		return form{[]int{api.KindInt}, api.KindInt}
	case api.ENot:
		return form{[]int{api.KindBool}, api.KindBool}
	case api.EAdd, api.ESub, api.EMul, api.EDiv, api.ERem:
		return form{[]int{api.KindInt, api.KindInt}, api.KindInt}
	case api.ELess, api.EAtMost:
		return form{[]int{api.KindInt, api.KindInt}, api.KindBool}
	case api.EAnd, api.EOr:
		return form{[]int{api.KindBool, api.KindBool}, api.KindBool}
	case api.EEq, api.ENe:
		first := worthKind(kids, 0)
		return form{[]int{first, first}, api.KindBool}
	case api.EIf:
		second := worthKind(kids, 1)
		return form{[]int{api.KindBool, second, second}, second}
	case api.ECall:
		return callForm(n.N)
	case api.EQuant:
		return quantForm(n.N)
	case api.ECell:
		first := worthKind(kids, 0)
		return form{[]int{first}, first}
	case api.ESetAll, api.ESetName:
		return form{nil, kindSet}
	case api.ESetAround:
		return form{[]int{api.KindVertex}, kindSet}
	case api.ESetList:
		return form{slices.Repeat([]int{api.KindVertex}, len(kids)), kindSet}
	}
	return form{nil, kindNone}
}

// worthKind is the kind of a kid that may be of any; that of a set, or of a kid that is not there, is none.
func worthKind(kids []int, i int) int {
	if i >= len(kids) || kids[i] == kindSet {
		return kindNone
	}
	return kids[i]
}

func callForm(which int) form {
	switch which {
	case api.CallConnected, api.CallBlock:
		return form{[]int{api.KindVertex, api.KindVertex}, api.KindBool}
	case api.CallBottleneck:
		return form{[]int{api.KindVertex, api.KindVertex}, api.KindInt}
	case api.CallRep:
		return form{[]int{api.KindVertex}, api.KindVertex}
	}
	return form{[]int{api.KindVertex}, api.KindInt}
}

func quantForm(which int) form {
	switch which {
	case api.QuantAll, api.QuantSome:
		return form{[]int{kindSet, api.KindBool}, api.KindBool}
	case api.QuantCount:
		return form{[]int{kindSet, api.KindBool}, api.KindInt}
	}
	return form{[]int{kindSet, api.KindInt}, api.KindInt}
}
