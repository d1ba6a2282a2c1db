package typing

import "isthmus/api"

// The kinds in plain words; two of them are the rules' own.
const (
	anyKind = 0
	number  = api.KindInt
	truth   = api.KindBool
	vertex  = api.KindVertex
	set     = api.KindVertex + 1
)

// rule is asked with a part and the kinds of those of its kids that are done: it tells what the next kid must be or, behind the last one, what the part is. Either hangs on the kids ahead alone: so one question does for both.
type rule func(e api.Expr, done []int) int

// rules has the rule of each kind of part at that kind.
func rules() []rule {
	return []rule{
		api.EInt:       fixed(number),
		api.EBool:      fixed(truth),
		api.EVertex:    fixed(vertex),
		api.EName:      fixed(vertex),
		api.ENeg:       fixed(number, number),
		api.ENot:       fixed(truth, truth),
		api.EAdd:       fixed(number, number, number),
		api.ESub:       fixed(number, number, number),
		api.EMul:       fixed(number, number, number),
		api.EDiv:       fixed(number, number, number),
		api.ERem:       fixed(number, number, number),
		api.EEq:        alike,
		api.ENe:        alike,
		api.ELess:      fixed(number, number, truth),
		api.EAtMost:    fixed(number, number, truth),
		api.EAnd:       fixed(truth, truth, truth),
		api.EOr:        fixed(truth, truth, truth),
		api.EIf:        choice,
		api.ECall:      byNumber(calls()),
		api.EQuant:     byNumber(quantifiers()),
		api.ESetAll:    fixed(set),
		api.ESetName:   fixed(set),
		api.ESetAround: fixed(vertex, set),
		api.ESetList:   members,
	}
}

// calls has the rule of each call at its number.
func calls() []rule {
	return []rule{
		api.CallConnected:  fixed(vertex, vertex, truth),
		api.CallBlock:      fixed(vertex, vertex, truth),
		api.CallBottleneck: fixed(vertex, vertex, number),
		api.CallSize:       fixed(vertex, number),
		api.CallTotal:      fixed(vertex, number),
		api.CallLeast:      fixed(vertex, number),
		api.CallMost:       fixed(vertex, number),
		api.CallValue:      fixed(vertex, number),
		api.CallDegree:     fixed(vertex, number),
		api.CallRep:        fixed(vertex, vertex),
	}
}

// quantifiers has the rule of each quantifier at its number.
func quantifiers() []rule {
	return []rule{
		api.QuantAll:   fixed(set, truth, truth),
		api.QuantSome:  fixed(set, truth, truth),
		api.QuantCount: fixed(set, truth, number),
		api.QuantSum:   fixed(set, number, number),
		api.QuantMin:   fixed(set, number, number),
		api.QuantMax:   fixed(set, number, number),
	}
}

// fixed is the rule of what has its kinds once and for all: those of its kids, and behind them its own.
func fixed(kinds ...int) rule {
	return func(_ api.Expr, done []int) int { return kinds[len(done)] }
}

// byNumber leaves a part to the rule that stands at its N.
func byNumber(rules []rule) rule {
	return func(e api.Expr, done []int) int { return rules[e.N](e, done) }
}

// alike is the rule of two kids of one kind, whichever that is.
func alike(_ api.Expr, done []int) int {
	switch len(done) {
	case 0:
		return anyKind
	case 1:
		return done[0]
	}
	return truth
}

// choice is the rule of a question and two parts of one kind; the third kid must be what the whole is.
func choice(_ api.Expr, done []int) int {
	switch len(done) {
	case 0:
		return truth
	case 1:
		return anyKind
	}
	return done[1]
}

// members is the rule of as many vertices as there are.
func members(e api.Expr, done []int) int {
	if len(done) < len(e.Kids) {
		return vertex
	}
	return set
}
