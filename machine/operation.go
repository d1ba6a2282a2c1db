package machine

import (
	"slices"

	"isthmus/api"
	"isthmus/ask"
	"isthmus/pack"
	"isthmus/reckon"
)

// numbers are a word's A and B.
type numbers struct {
	a, b int
}

// operations are what words do, by their operations.
func (m *Machine) operations() []func(numbers) {
	return []func(numbers){
		api.OpHalt:   m.halt,
		api.OpConst:  m.pushConst,
		api.OpVertex: m.pushVertex,
		api.OpVar:    m.pushVar,
		api.OpNeg:    m.neg,
		api.OpNot:    m.not,
		api.OpAdd:    m.add,
		api.OpSub:    m.sub,
		api.OpMul:    m.mul,
		api.OpDiv:    m.div,
		api.OpRem:    m.rem,
		api.OpEq:     m.eq,
		api.OpLess:   m.less,
		api.OpJump:   m.jump,
		api.OpFalse:  m.leadOnFalse,
		api.OpTrue:   m.leadOnTrue,
		api.OpCall:   m.call,
		api.OpFetch:  m.fetch,
		api.OpKeep:   m.keep,
		api.OpClear:  m.empty,
		api.OpAll:    m.openAll,
		api.OpNamed:  m.openNamed,
		api.OpAround: m.openAround,
		api.OpList:   m.openList,
		api.OpNext:   m.goOn,
		api.OpClose:  m.close,
		api.OpBest:   m.best,
		api.OpSome:   m.some,
	}
}

// step does the word that comes next. Behind it comes the one behind that, unless it leads elsewhere.
func (m *Machine) step(does []func(numbers)) {
	op, a, b := pack.Parts(m.code.Words[m.next])
	m.next++
	does[op](numbers{a, b})
	m.steps++
	m.depth = max(m.depth, len(m.stack))
}

func (m *Machine) ended() bool { return m.answer != api.Answer{} }

func (m *Machine) fail(fault int) { m.answer = api.Answer{Fault: fault} }

func (m *Machine) halt(numbers) { m.answer = api.Answer{Kind: m.kind, N: m.pop()} }

func (m *Machine) push(n int) { m.stack = append(m.stack, n) }

// pushWorth pushes what came of something, unless that is a fault.
func (m *Machine) pushWorth(n, fault int) {
	if fault != reckon.NoFault {
		m.fail(fault)
		return
	}
	m.push(n)
}

func (m *Machine) top() int { return m.stack[len(m.stack)-1] }

func (m *Machine) pop() int {
	n := m.top()
	m.stack = m.stack[:len(m.stack)-1]
	return n
}

// popTwo pops two values, of which the right one is the top.
func (m *Machine) popTwo() (left, right int) {
	right = m.pop()
	left = m.pop()
	return left, right
}

// popAll pops so many values: they are told the lowest first.
func (m *Machine) popAll(many int) []int {
	under := len(m.stack) - many
	all := slices.Clone(m.stack[under:])
	m.stack = m.stack[:under]
	return all
}

func (m *Machine) pushConst(w numbers) { m.push(m.code.Consts[w.a]) }

func (m *Machine) pushVertex(w numbers) { m.pushWorth(ask.Vertex(m.store, m.code.Consts[w.a])) }

func (m *Machine) pushVar(w numbers) { m.push(m.rounds[w.a].at) }

func (m *Machine) neg(numbers) { m.pushWorth(reckon.Minus(0, m.pop())) }

func (m *Machine) not(numbers) { m.push(reckon.Truth(m.pop() == 0)) }

func (m *Machine) add(numbers) { m.reckon(reckon.Plus) }

func (m *Machine) sub(numbers) { m.reckon(reckon.Minus) }

func (m *Machine) mul(numbers) { m.reckon(reckon.Times) }

func (m *Machine) div(numbers) { m.reckon(reckon.Quotient) }

func (m *Machine) rem(numbers) { m.reckon(reckon.Rest) }

// reckon pushes what comes of the two values that are popped.
func (m *Machine) reckon(how func(left, right int) (worth, fault int)) {
	left, right := m.popTwo()
	m.pushWorth(how(left, right))
}

func (m *Machine) eq(numbers) {
	left, right := m.popTwo()
	m.push(reckon.Truth(left == right))
}

func (m *Machine) less(w numbers) {
	left, right := m.popTwo()
	m.push(reckon.Truth(left < right || w.b == 1 && left == right))
}

func (m *Machine) jump(w numbers) { m.next = w.a }

func (m *Machine) leadOnFalse(w numbers) {
	if m.pop() == 0 {
		m.jump(w)
	}
}

func (m *Machine) leadOnTrue(w numbers) {
	if m.pop() == 1 {
		m.jump(w)
	}
}

func (m *Machine) call(w numbers) {
	m.pushWorth(ask.Call(m.store, w.a, m.popAll(vertices(w.a))))
}

// vertices is of how many vertices a call is.
func vertices(call int) int {
	switch call {
	case api.CallConnected, api.CallBlock, api.CallBottleneck:
		return 2
	}
	return 1
}

// best keeps the first number only where there was one, and it is not worse.
func (m *Machine) best(w numbers) {
	n, is, first := m.pop(), m.pop(), m.pop()
	if is == 0 || w.a == 0 && n < first || w.a == 1 && n > first {
		first = n
	}
	m.push(first)
	m.push(1)
}

func (m *Machine) some(numbers) {
	if m.pop() == 0 {
		m.fail(api.FaultEmpty)
	}
}
