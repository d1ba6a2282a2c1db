package bridge_test

import (
	"fmt"
	"slices"

	"isthmus/api"
)

// oracle is what both Oracles and plain ones can be asked.
type oracle interface {
	Bridges() []int
	Same(u, v int) (bool, api.Errno)
	Block(v int) (int, api.Errno)
	Blocks() int
}

// plain is a graph by the document's words, which is gone through again for each answer.
type plain struct {
	n     int
	edges []api.Edge
}

// plainOf is Of by the document's words.
func plainOf(n int, l []api.Edge) (*plain, api.Errno) {
	if n < 1 || n > 64 || len(l) > 192 {
		return nil, api.ErrArg
	}
	p := &plain{n: n}
	for _, x := range l {
		same := func(y api.Edge) bool { return y.ID == x.ID }
		switch {
		case p.none(x.U, x.V), x.U == x.V, x.ID < 0, x.ID > 1<<40, x.Weight < -1<<40, x.Weight > 1<<40, slices.ContainsFunc(p.edges, same):
			return nil, api.ErrBridgeEdge
		}
		p.edges = append(p.edges, x)
	}
	return p, api.OK
}

func (p *plain) none(vertices ...int) bool {
	return slices.ContainsFunc(vertices, func(v int) bool { return v < 0 || v >= p.n })
}

// without is the same graph without one edge.
func (p *plain) without(i int) *plain {
	return &plain{p.n, slices.Delete(slices.Clone(p.edges), i, i+1)}
}

// isBridge asks whether there is no way between an edge's ends without it.
func (p *plain) isBridge(i int) bool {
	x := p.edges[i]
	rest := p.without(i).components()
	return rest[x.U] != rest[x.V]
}

// components are, of each vertex, the least one to which there is a way.
func (p *plain) components() []int {
	least := make([]int, p.n)
	for v := range p.n {
		least[v] = v
	}
	for changed := true; changed; {
		changed = false
		for _, x := range p.edges {
			if least[x.U] != least[x.V] {
				m := min(least[x.U], least[x.V])
				least[x.U], least[x.V], changed = m, m, true
			}
		}
	}
	return least
}

// blocks are, of each vertex, the least one to which there is a way over no bridge.
func (p *plain) blocks() []int {
	inner := &plain{n: p.n}
	for i, x := range p.edges {
		if !p.isBridge(i) {
			inner.edges = append(inner.edges, x)
		}
	}
	return inner.components()
}

// unlike is how many unlike numbers a list has.
func unlike(list []int) int {
	list = slices.Clone(list)
	slices.Sort(list)
	return len(slices.Compact(list))
}

func (p *plain) Bridges() []int {
	var ids []int
	for i, x := range p.edges {
		if p.isBridge(i) {
			ids = append(ids, x.ID)
		}
	}
	slices.Sort(ids)
	return ids
}

func (p *plain) Same(u, v int) (bool, api.Errno) {
	if p.none(u, v) {
		return false, api.ErrBridgeVertex
	}
	b := p.blocks()
	return b[u] == b[v], api.OK
}

func (p *plain) Block(v int) (int, api.Errno) {
	if p.none(v) {
		return 0, api.ErrBridgeVertex
	}
	return p.blocks()[v], api.OK
}

func (p *plain) Blocks() int {
	return unlike(p.blocks())
}

// told is all that can be asked of an oracle, as a text: of the vertices and of those a little beyond them.
func told(o oracle, n int) string {
	all := []string{fmt.Sprint(o.Bridges()), fmt.Sprint(o.Blocks())}
	for v := -1; v <= n; v++ {
		all = append(all, fmt.Sprint(o.Block(v)))
		for u := -1; u <= n; u++ {
			all = append(all, fmt.Sprint(o.Same(u, v)))
		}
	}
	return fmt.Sprint(all)
}
