package machine

import (
	"isthmus/ask"
	"isthmus/reckon"
)

// round goes over vertices that were told when it was opened.
type round struct {
	at   int   // the vertex at which it is; 0 ahead of the first
	rest []int // those that are still to come, rising
}

func (m *Machine) openAll(numbers) { m.open(ask.All(m.store), reckon.NoFault) }

func (m *Machine) openNamed(w numbers) { m.open(ask.Named(m.store, m.code.Names[w.a])) }

func (m *Machine) openAround(numbers) { m.open(ask.Around(m.store, m.pop())) }

func (m *Machine) openList(w numbers) { m.open(ask.List(m.popAll(w.a)), reckon.NoFault) }

// open opens a round over some vertices, unless a fault came in their place.
func (m *Machine) open(ids []int, fault int) {
	if fault != reckon.NoFault {
		m.fail(fault)
		return
	}
	m.rounds = append(m.rounds, round{rest: ids})
}

func (m *Machine) goOn(w numbers) {
	r := &m.rounds[len(m.rounds)-1]
	if len(r.rest) == 0 {
		m.close(w)
		m.jump(w)
		return
	}
	r.at, r.rest = r.rest[0], r.rest[1:]
}

func (m *Machine) close(numbers) { m.rounds = m.rounds[:len(m.rounds)-1] }
