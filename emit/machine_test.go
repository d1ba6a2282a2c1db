package emit_test

import (
	"math/big"
	"slices"

	"isthmus/api"
	"isthmus/store"
)

// fault is what a machine gives up with.
type fault int

// value is one on the stack, or in a cell.
type value struct{ kind, n int }

// round is one that is open: the vertex at which it is, and those that are still to come.
type round struct {
	at   int
	rest []int
}

// machine is chapter 21's, on which code runs.
type machine struct {
	code   api.Code
	store  *store.Store
	stack  []value
	rounds []round
	cells  map[int]value // the full ones
	word   int
}

// ran is what code is worth in a store; FaultFuel, if it does not end in so many steps.
func ran(c api.Code, s *store.Store, steps int) (answer api.Answer) {
	m := &machine{code: c, store: s, cells: map[int]value{}}
	defer func() {
		if r := recover(); r != nil {
			answer = api.Answer{Fault: int(r.(fault))}
		}
	}()
	for range steps {
		op, a, b := fields(c.Words[m.word])
		if op == api.OpHalt {
			top := m.pop()
			return api.Answer{Kind: top.kind, N: top.n}
		}
		m.word++
		m.step(op, a, b)
	}
	return api.Answer{Fault: api.FaultFuel}
}

func (m *machine) push(kind, n int) { m.stack = append(m.stack, value{kind, n}) }

func (m *machine) pop() value {
	top := m.stack[len(m.stack)-1]
	m.stack = m.stack[:len(m.stack)-1]
	return top
}

// popped is so many values, the lowest first.
func (m *machine) popped(many int) []int {
	var list []int
	for range many {
		list = append(list, m.pop().n)
	}
	slices.Reverse(list)
	return list
}

func (m *machine) step(op, a, b int) {
	switch op {
	case api.OpConst:
		m.push(b, m.code.Consts[a])
	case api.OpVertex:
		if !m.store.Has(m.code.Consts[a]) {
			panic(fault(api.FaultVertex))
		}
		m.push(api.KindVertex, m.code.Consts[a])
	case api.OpVar:
		m.push(api.KindVertex, m.rounds[a].at)
	case api.OpNeg:
		m.push(api.KindInt, reckoned(api.OpSub, 0, m.pop().n))
	case api.OpNot:
		m.push(api.KindBool, 1-m.pop().n)
	case api.OpAdd, api.OpSub, api.OpMul, api.OpDiv, api.OpRem:
		two := m.popped(2)
		m.push(api.KindInt, reckoned(op, two[0], two[1]))
	case api.OpEq:
		two := m.popped(2)
		m.push(api.KindBool, truth(two[0] == two[1]))
	case api.OpLess:
		two := m.popped(2)
		m.push(api.KindBool, truth(two[0] < two[1] || b == 1 && two[0] == two[1]))
	case api.OpJump:
		m.word = a
	case api.OpFalse, api.OpTrue:
		if m.pop().n == op-api.OpFalse {
			m.word = a
		}
	case api.OpCall:
		m.call(a)
	case api.OpBest:
		m.best(a)
	case api.OpSome:
		if m.pop().n == 0 {
			panic(fault(api.FaultEmpty))
		}
	default:
		m.keepOrGo(op, a, b)
	}
}

// keepOrGo does what cells and rounds are for.
func (m *machine) keepOrGo(op, a, b int) {
	innermost := len(m.rounds) - 1
	switch op {
	case api.OpFetch:
		if v, full := m.cells[a]; full {
			m.push(v.kind, v.n)
			m.word = b
		}
	case api.OpKeep:
		m.cells[a] = m.stack[len(m.stack)-1]
	case api.OpClear:
		delete(m.cells, a)
	case api.OpAll:
		var ids []int
		for _, v := range m.store.Vertices() {
			ids = append(ids, v.ID)
		}
		m.open(ids)
	case api.OpNamed:
		ids, e := m.store.Members(m.code.Names[a])
		if e != api.OK {
			panic(fault(api.FaultSet))
		}
		m.open(ids)
	case api.OpAround:
		ids, _ := m.store.Around(m.pop().n)
		m.open(ids)
	case api.OpList:
		m.open(m.popped(a))
	case api.OpNext:
		if len(m.rounds[innermost].rest) == 0 {
			m.rounds = m.rounds[:innermost]
			m.word = a
			return
		}
		r := &m.rounds[innermost]
		r.at, r.rest = r.rest[0], r.rest[1:]
	case api.OpClose:
		m.rounds = m.rounds[:innermost]
	default:
		panic("no operation")
	}
}

func (m *machine) open(ids []int) {
	slices.Sort(ids)
	m.rounds = append(m.rounds, round{rest: slices.Compact(ids)})
}

func (m *machine) best(most int) {
	b, is, first := m.pop().n, m.pop().n, m.pop().n
	if is == 0 || most == 0 && b < first || most == 1 && b > first {
		first = b
	}
	m.push(api.KindInt, first)
	m.push(api.KindBool, 1)
}

func truth(is bool) int {
	if is {
		return 1
	}
	return 0
}

// reckoned is done with numbers without an end, and held to 64 bits then.
func reckoned(op, left, right int) int {
	if (op == api.OpDiv || op == api.OpRem) && right == 0 {
		panic(fault(api.FaultZero))
	}
	x, y := big.NewInt(int64(left)), big.NewInt(int64(right))
	switch op {
	case api.OpAdd:
		x.Add(x, y)
	case api.OpSub:
		x.Sub(x, y)
	case api.OpMul:
		x.Mul(x, y)
	case api.OpDiv:
		x.Quo(x, y)
	case api.OpRem:
		x.Rem(x, y)
	}
	if !x.IsInt64() {
		panic(fault(api.FaultOverflow))
	}
	return int(x.Int64())
}

func (m *machine) call(which int) {
	many := 1
	if which <= api.CallBottleneck {
		many = 2
	}
	ids := m.popped(many)
	u, v := ids[0], ids[many-1]
	kind, n, is, e := api.KindInt, 0, false, api.OK
	switch which {
	case api.CallConnected:
		is, e = m.store.Connected(u, v)
		kind, n = api.KindBool, truth(is)
	case api.CallBlock:
		is, e = m.store.Block(u, v)
		kind, n = api.KindBool, truth(is)
	case api.CallBottleneck:
		n, e = m.store.Bottleneck(u, v)
	case api.CallSize:
		n, e = m.store.Size(u)
	case api.CallTotal:
		n, e = m.store.Total(u)
	case api.CallLeast:
		n, e = m.store.Least(u)
	case api.CallMost:
		n, e = m.store.Most(u)
	case api.CallValue:
		n, e = m.store.Value(u)
	case api.CallDegree:
		n, e = m.store.Degree(u)
	case api.CallRep:
		n, e = m.store.Rep(u)
		kind = api.KindVertex
	}
	if e == api.ErrStorePath {
		panic(fault(api.FaultEmpty))
	}
	if e != api.OK {
		panic(fault(api.FaultVertex))
	}
	m.push(kind, n)
}
