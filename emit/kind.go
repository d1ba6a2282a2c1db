package emit

import "isthmus/api"

// kindOf is the kind of what a part of a right plan is worth; that of a set means nothing.
func kindOf(n api.Node) int {
	switch n.Kind {
	case api.EInt, api.ENeg, api.EAdd, api.ESub, api.EMul, api.EDiv, api.ERem:
		return api.KindInt
	case api.EVertex, api.EVar:
		return api.KindVertex
	case api.EIf:
		return kindOf(n.Kids[1])
	case api.ECell:
		return kindOf(n.Kids[0])
	case api.ECall:
		return callKind(n.N)
	case api.EQuant:
		return quantKind(n.N)
	}
	return api.KindBool
}

func callKind(which int) int {
	switch which {
	case api.CallConnected, api.CallBlock:
		return api.KindBool
	case api.CallRep:
		return api.KindVertex
	}
	return api.KindInt
}

func quantKind(which int) int {
	switch which {
	case api.QuantAll, api.QuantSome:
		return api.KindBool
	}
	return api.KindInt
}
