package code

import (
	"isthmus/api"
	"isthmus/lex"
	"isthmus/pack"
)

// What a number of a word may be.
const (
	none     = iota // the operation does not have it: 0
	lead            // any: whether there is a word where it leads is not asked here
	bit             // 0 or 1
	variable        // that of a quantifier around
	call
	vertices // so many of them on the stack
	constKind
	anyKind
	constPlace
	namePlace
	cellPlace
)

// rule is what the numbers of an operation's words may be.
type rule struct {
	a, b int
}

var rules = [...]rule{
	api.OpHalt:   {},
	api.OpConst:  {a: constPlace, b: constKind},
	api.OpVertex: {a: constPlace},
	api.OpVar:    {a: variable},
	api.OpNeg:    {},
	api.OpNot:    {},
	api.OpAdd:    {},
	api.OpSub:    {},
	api.OpMul:    {},
	api.OpDiv:    {},
	api.OpRem:    {},
	api.OpEq:     {b: anyKind},
	api.OpLess:   {b: bit},
	api.OpJump:   {a: lead},
	api.OpFalse:  {a: lead},
	api.OpTrue:   {a: lead},
	api.OpCall:   {a: call},
	api.OpFetch:  {a: cellPlace, b: lead},
	api.OpKeep:   {a: cellPlace},
	api.OpClear:  {a: cellPlace},
	api.OpAll:    {},
	api.OpNamed:  {a: namePlace},
	api.OpAround: {},
	api.OpList:   {a: vertices},
	api.OpNext:   {a: lead},
	api.OpClose:  {},
	api.OpBest:   {a: bit},
	api.OpSome:   {},
}

func listsRight(c api.Code) bool {
	if len(c.Consts) > mostConsts || len(c.Names) > mostNames || len(c.Cells) > api.MaxCells {
		return false
	}
	for _, name := range c.Names {
		if !lex.IsName(name) {
			return false
		}
	}
	for _, kind := range c.Cells {
		if !may(anyKind, kind, c) {
			return false
		}
	}
	return true
}

func wordsRight(c api.Code) bool {
	if len(c.Words) == 0 || len(c.Words) > api.MaxWords {
		return false
	}
	for _, w := range c.Words {
		if !wordRight(w, c) {
			return false
		}
	}
	return true
}

func wordRight(w uint64, c api.Code) bool {
	op, a, b := pack.Parts(w)
	if op >= len(rules) || !may(rules[op].a, a, c) || !may(rules[op].b, b, c) {
		return false
	}
	switch {
	case op == api.OpConst && b == api.KindBool:
		return may(bit, c.Consts[a], c)
	case op == api.OpVertex:
		return c.Consts[a] >= 0
	}
	return true
}

// may tells whether a number is one of those.
func may(those, n int, c api.Code) bool {
	least, most := span(those, c)
	return least <= n && n <= most
}

// span is the least and the greatest of those; of places in an empty list the greatest is below the least.
func span(those int, c api.Code) (int, int) {
	switch those {
	case lead:
		return 0, mostField
	case bit:
		return 0, 1
	case variable:
		return 0, api.MaxQuants - 1
	case call:
		return api.CallConnected, api.CallRep
	case vertices:
		return 0, api.MaxStack
	case constKind:
		return api.KindInt, api.KindBool
	case anyKind:
		return api.KindInt, api.KindVertex
	case constPlace:
		return 0, len(c.Consts) - 1
	case namePlace:
		return 0, len(c.Names) - 1
	case cellPlace:
		return 0, len(c.Cells) - 1
	}
	return 0, 0
}
