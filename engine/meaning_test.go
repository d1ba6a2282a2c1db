package engine_test

import (
	"math/big"
	"slices"

	"isthmus/api"
	"isthmus/typing"
)

// fault is what a query gives up with.
type fault int

// binding is a name with the vertex at which it is.
type binding struct {
	name string
	id   int
}

// meaning is what a query means by its tree as it was read: no plan is made of it, and no layer that answers is asked, but what a store lists.
type meaning struct {
	facts
	bound []binding // the innermost one last
}

// meant is what a query that is typed means in a graph.
func meant(e api.Expr, f facts) (a api.Answer) {
	defer func() {
		if r := recover(); r != nil {
			a = isFault(int(r.(fault)))
		}
	}()
	kind, _, _ := typing.Check(e)
	m := &meaning{facts: f}
	return api.Answer{Kind: kind, N: m.worth(e)}
}

func (m *meaning) must(id int) int {
	if !slices.Contains(m.ids(), id) {
		panic(fault(api.FaultVertex))
	}
	return id
}

func (m *meaning) worth(e api.Expr) int {
	switch e.Kind {
	case api.EInt, api.EBool:
		return e.N
	case api.EVertex:
		return m.must(e.N)
	case api.EName:
		return m.at(e.Name)
	case api.EQuant:
		return m.quantifier(e)
	}
	first := m.worth(e.Kids[0])
	switch {
	case e.Kind == api.EIf:
		return m.worth(e.Kids[2-first])
	case e.Kind == api.EAnd && first == 0, e.Kind == api.EOr && first == 1:
		return first
	}
	of := []int{first}
	for _, kid := range e.Kids[1:] {
		of = append(of, m.worth(kid))
	}
	if e.Kind == api.ECall {
		return m.call(e.N, of)
	}
	return reckoned(e.Kind, of)
}

func (m *meaning) at(name string) int {
	for _, b := range slices.Backward(m.bound) {
		if b.name == name {
			return b.id
		}
	}
	panic(name)
}

// reckoned is done with numbers without an end, and held to 64 bits then.
func reckoned(kind int, of []int) int {
	x, y := big.NewInt(int64(of[0])), big.NewInt(int64(of[len(of)-1]))
	switch kind {
	case api.ENot:
		return 1 - of[0]
	case api.EAnd, api.EOr:
		return of[1]
	case api.EEq:
		return truth(of[0] == of[1])
	case api.ENe:
		return truth(of[0] != of[1])
	case api.ELess:
		return truth(of[0] < of[1])
	case api.EAtMost:
		return truth(of[0] <= of[1])
	case api.ENeg:
		x.Neg(x)
	case api.EAdd:
		x.Add(x, y)
	case api.ESub:
		x.Sub(x, y)
	case api.EMul:
		x.Mul(x, y)
	case api.EDiv, api.ERem:
		if of[1] == 0 {
			panic(fault(api.FaultZero))
		}
		quotient, rest := new(big.Int).QuoRem(x, y, new(big.Int))
		x = map[int]*big.Int{api.EDiv: quotient, api.ERem: rest}[kind]
	}
	if !x.IsInt64() {
		panic(fault(api.FaultOverflow))
	}
	return int(x.Int64())
}

func (m *meaning) call(which int, of []int) int {
	values := m.values(of[0])
	switch which {
	case api.CallConnected:
		return truth(slices.Contains(reach(m.edges, of[0]), of[1]))
	case api.CallBlock:
		return truth(m.block(of[0], of[1]))
	case api.CallBottleneck:
		n, is := m.bottleneck(of[0], of[1])
		if !is {
			panic(fault(api.FaultEmpty))
		}
		return n
	case api.CallSize:
		return len(values)
	case api.CallTotal:
		total := 0
		for _, n := range values {
			total += n
		}
		return total
	case api.CallLeast:
		return values[0]
	case api.CallMost:
		return values[len(values)-1]
	case api.CallValue:
		return m.value(of[0])
	case api.CallDegree:
		return m.degree(of[0])
	}
	return reach(m.edges, of[0])[0] // CallRep
}

// set is the vertices of one, rising.
func (m *meaning) set(e api.Expr) []int {
	var ids []int
	switch e.Kind {
	case api.ESetAll:
		ids = m.ids()
	case api.ESetName:
		of, is := m.sets[e.Name]
		if !is {
			panic(fault(api.FaultSet))
		}
		ids = slices.Clone(of)
	case api.ESetAround:
		ids = reach(m.edges, m.worth(e.Kids[0]))
	case api.ESetList:
		for _, kid := range e.Kids {
			ids = append(ids, m.worth(kid))
		}
	}
	slices.Sort(ids)
	return slices.Compact(ids)
}

func (m *meaning) quantifier(e api.Expr) int {
	ids := m.set(e.Kids[0])
	worth := map[int]int{api.QuantAll: 1}[e.N]
	for i, id := range ids {
		m.bound = append(m.bound, binding{e.Name, id})
		n := m.worth(e.Kids[1])
		m.bound = m.bound[:len(m.bound)-1]
		switch {
		case e.N == api.QuantAll && n == 0, e.N == api.QuantSome && n == 1:
			return n
		case e.N == api.QuantCount, e.N == api.QuantSum:
			worth = reckoned(api.EAdd, []int{worth, n})
		case e.N == api.QuantMin && (i == 0 || n < worth), e.N == api.QuantMax && (i == 0 || n > worth):
			worth = n
		}
	}
	if len(ids) == 0 && (e.N == api.QuantMin || e.N == api.QuantMax) {
		panic(fault(api.FaultEmpty))
	}
	return worth
}
