package syntax

import (
	"isthmus/api"
	"isthmus/lex"
)

// form goes through a tree, and asks whether its parts are such as may be where they stand.
type form struct {
	parts int // gone through up to now
}

func (f *form) holds(e api.Expr) bool {
	f.parts++
	// Each part has a byte of the text at least: a tree of more parts, or without an end, need not be gone through.
	if f.parts > api.MaxSource || !holdsNumber(e) || !holdsName(e) || !holdsKids(e) {
		return false
	}
	for i, kid := range e.Kids {
		first := e.Kind == api.EQuant && i == 0
		if isSet(kid) != first || !f.holds(kid) {
			return false
		}
	}
	return true
}

func isSet(e api.Expr) bool {
	switch e.Kind {
	case api.ESetAll, api.ESetName, api.ESetAround, api.ESetList:
		return true
	}
	return false
}

func holdsNumber(e api.Expr) bool {
	switch e.Kind {
	case api.EInt, api.EVertex:
		return e.N >= 0
	case api.EBool:
		return e.N == 0 || e.N == 1
	case api.ECall:
		_, is := callOf(e.N)
		return is
	case api.EQuant:
		_, is := quantifierOf(e.N)
		return is
	}
	return e.N == 0
}

func holdsName(e api.Expr) bool {
	switch e.Kind {
	case api.EName, api.ESetName, api.EQuant:
		return lex.IsName(e.Name)
	}
	return e.Name == ""
}

// holdsKids asks for the number of kids that a kind has; no other kind is one of a query's.
func holdsKids(e api.Expr) bool {
	many := len(e.Kids)
	switch e.Kind {
	case api.EInt, api.EBool, api.EVertex, api.EName, api.ESetAll, api.ESetName:
		return many == 0
	case api.ENeg, api.ENot, api.ESetAround:
		return many == 1
	case api.EQuant:
		return many == 2
	case api.EIf:
		return many == 3
	case api.ECall:
		c, _ := callOf(e.N)
		return many == c.arguments
	case api.ESetList:
		return true
	}
	_, is := operatorOf(e.Kind)
	return is && many == 2
}
