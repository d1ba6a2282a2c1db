package machine

// content is what a cell keeps.
type content struct {
	full bool
	n    int
}

func (m *Machine) fetch(w numbers) {
	if c := m.cells[w.a]; c.full {
		m.push(c.n)
		m.next = w.b
	}
}

func (m *Machine) keep(w numbers) { m.cells[w.a] = content{full: true, n: m.top()} }

func (m *Machine) empty(w numbers) { m.cells[w.a] = content{} }
