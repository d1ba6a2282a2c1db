package machine_test

import (
	"math/big"
	"slices"

	"isthmus/api"
	"isthmus/store"
)

// fault is what a step gives up with.
type fault int

// value is one on the stack, or in a cell.
type value struct{ kind, n int }

// plainRound is one that is open: the vertices that it had when it was opened, and how many of them it has gone on to.
type plainRound struct {
	ids  []int
	gone int
}

func (r plainRound) at() int { return append([]int{0}, r.ids...)[r.gone] }

// plain is a machine by the chapter's words, over what a store lists.
type plain struct {
	facts
	code   api.Code
	stack  []value
	rounds []plainRound
	cells  map[int]value // the full ones
	word   int
	steps  int
	depth  int
	ended  bool
	answer api.Answer
}

func newPlain(c api.Code, s *store.Store) *plain {
	return &plain{facts: factsOf(s), code: c, cells: map[int]value{}}
}

// run does so many steps at the most.
func (p *plain) run(many int) {
	for range many {
		if p.ended {
			return
		}
		p.steps++
		p.step()
		p.depth = max(p.depth, len(p.stack))
	}
}

func (p *plain) step() {
	defer func() {
		if r := recover(); r != nil {
			p.ended, p.answer = true, api.Answer{Fault: int(r.(fault))}
		}
	}()
	op, a, b := fields(p.code.Words[p.word])
	p.word++
	switch {
	case op == api.OpHalt:
		top := p.stack[len(p.stack)-1]
		p.ended, p.answer = true, api.Answer{Kind: top.kind, N: top.n}
	case op <= api.OpVar:
		p.push(p.given(op, a, b))
	case op <= api.OpLess || op == api.OpBest || op == api.OpSome:
		p.reckon(op, a, b)
	case op == api.OpCall:
		p.call(a)
	case op <= api.OpTrue:
		if op == api.OpJump || p.pop() == op-api.OpFalse {
			p.word = a
		}
	case op <= api.OpClear:
		p.cell(op, a, b)
	default:
		p.round(op, a)
	}
}

func (p *plain) push(kind, n int) { p.stack = append(p.stack, value{kind, n}) }

func (p *plain) pop() int { return p.popped(1)[0] }

// popped is so many values, the lowest first.
func (p *plain) popped(many int) []int {
	var list []int
	under := len(p.stack) - many
	for _, v := range p.stack[under:] {
		list = append(list, v.n)
	}
	p.stack = p.stack[:under]
	return list
}

func (p *plain) must(id int) int {
	if !slices.Contains(p.ids(), id) {
		panic(fault(api.FaultVertex))
	}
	return id
}

func (p *plain) given(op, a, b int) (kind, n int) {
	switch op {
	case api.OpConst:
		return b, p.code.Consts[a]
	case api.OpVertex:
		return api.KindVertex, p.must(p.code.Consts[a])
	}
	return api.KindVertex, p.rounds[a].at()
}

func (p *plain) reckon(op, a, b int) {
	switch op {
	case api.OpNeg:
		p.push(api.KindInt, reckoned(api.OpSub, 0, p.pop()))
	case api.OpNot:
		p.push(api.KindBool, map[int]int{0: 1}[p.pop()])
	case api.OpEq:
		two := p.popped(2)
		p.push(api.KindBool, truth(two[0] == two[1]))
	case api.OpLess:
		two := p.popped(2)
		p.push(api.KindBool, truth(two[0] < two[1] || b == 1 && two[0] == two[1]))
	case api.OpBest:
		three := p.popped(3)
		if three[1] == 0 || []bool{three[2] < three[0], three[2] > three[0]}[a] {
			three[0] = three[2]
		}
		p.push(api.KindInt, three[0])
		p.push(api.KindBool, 1)
	case api.OpSome:
		if p.pop() == 0 {
			panic(fault(api.FaultEmpty))
		}
	default:
		two := p.popped(2)
		p.push(api.KindInt, reckoned(op, two[0], two[1]))
	}
}

// reckoned is done with numbers without an end, and held to 64 bits then.
func reckoned(op, left, right int) int {
	if (op == api.OpDiv || op == api.OpRem) && right == 0 {
		panic(fault(api.FaultZero))
	}
	x, y := big.NewInt(int64(left)), big.NewInt(int64(right))
	switch op {
	case api.OpAdd:
		x.Add(x, y)
	case api.OpSub:
		x.Sub(x, y)
	case api.OpMul:
		x.Mul(x, y)
	case api.OpDiv:
		x.Quo(x, y)
	case api.OpRem:
		x.Rem(x, y)
	}
	if !x.IsInt64() {
		panic(fault(api.FaultOverflow))
	}
	return int(x.Int64())
}

func (p *plain) call(which int) {
	if which <= api.CallBottleneck {
		ids := p.popped(2)
		p.callOfTwo(which, p.must(ids[0]), p.must(ids[1]))
		return
	}
	u := p.must(p.pop())
	values := p.values(u)
	switch which {
	case api.CallSize:
		p.push(api.KindInt, len(values))
	case api.CallTotal:
		sum := 0
		for _, n := range values {
			sum += n
		}
		p.push(api.KindInt, sum)
	case api.CallLeast:
		p.push(api.KindInt, values[0])
	case api.CallMost:
		p.push(api.KindInt, values[len(values)-1])
	case api.CallValue:
		p.push(api.KindInt, p.value(u))
	case api.CallDegree:
		p.push(api.KindInt, p.degree(u))
	case api.CallRep:
		p.push(api.KindVertex, reach(p.edges, u)[0])
	}
}

func (p *plain) callOfTwo(which, u, v int) {
	switch which {
	case api.CallConnected:
		p.push(api.KindBool, truth(slices.Contains(reach(p.edges, u), v)))
	case api.CallBlock:
		p.push(api.KindBool, truth(p.block(u, v)))
	case api.CallBottleneck:
		n, is := p.bottleneck(u, v)
		if !is {
			panic(fault(api.FaultEmpty))
		}
		p.push(api.KindInt, n)
	}
}

func (p *plain) cell(op, a, b int) {
	switch op {
	case api.OpFetch:
		if v, full := p.cells[a]; full {
			p.push(v.kind, v.n)
			p.word = b
		}
	case api.OpKeep:
		p.cells[a] = p.stack[len(p.stack)-1]
	case api.OpClear:
		delete(p.cells, a)
	}
}

func (p *plain) round(op, a int) {
	innermost := len(p.rounds) - 1
	var ids []int
	switch op {
	case api.OpNext:
		r := &p.rounds[innermost]
		if r.gone < len(r.ids) {
			r.gone++
			return
		}
		p.rounds, p.word = p.rounds[:innermost], a
		return
	case api.OpClose:
		p.rounds = p.rounds[:innermost]
		return
	case api.OpAll:
		ids = p.ids()
	case api.OpNamed:
		set, is := p.sets[p.code.Names[a]]
		if !is {
			panic(fault(api.FaultSet))
		}
		ids = slices.Clone(set)
	case api.OpAround:
		ids = reach(p.edges, p.must(p.pop()))
	case api.OpList:
		for _, id := range p.popped(a) {
			place(&ids, id)
		}
	}
	slices.Sort(ids)
	p.rounds = append(p.rounds, plainRound{ids: ids})
}
