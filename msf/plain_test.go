package msf_test

import (
	"fmt"
	"slices"

	"isthmus/api"
)

// graph is what both Forests and plain ones can be asked.
type graph interface {
	Insert(id, u, v, weight int) api.Errno
	Delete(id int) api.Errno
	In(id int) (bool, api.Errno)
	Bottleneck(u, v int) (api.Edge, api.Errno)
	Weight() int
	All() []int
}

// plain is a graph by the document's words: a list of edges, from the least heavy one on.
type plain struct {
	n     int
	edges []api.Edge
}

func newPlain(n int) *plain {
	return &plain{n: n}
}

func (p *plain) none(vertices ...int) bool {
	return slices.ContainsFunc(vertices, func(v int) bool { return v < 0 || v >= p.n })
}

func (p *plain) find(id int) int {
	return slices.IndexFunc(p.edges, func(x api.Edge) bool { return x.ID == id })
}

// byWeight is below 0, if the second of two edges is the heavier one.
func byWeight(x, y api.Edge) int {
	if x.Weight != y.Weight {
		return x.Weight - y.Weight
	}
	return x.ID - y.ID
}

// forest is the edges between whose ends there is no way over less heavy ones: they are not the heaviest ones of any ring.
func (p *plain) forest() []api.Edge {
	var in []api.Edge
	lighter := newGroups(p.n)
	for _, x := range p.edges {
		if lighter.join(x.U, x.V) {
			in = append(in, x)
		}
	}
	return in
}

func (p *plain) Insert(id, u, v, weight int) api.Errno {
	switch {
	case p.none(u, v):
		return api.ErrMsfVertex
	case id < 0 || id > 1<<40 || weight < -1<<40 || weight > 1<<40:
		return api.ErrArg
	case p.find(id) >= 0:
		return api.ErrMsfTwice
	case u == v:
		return api.ErrMsfLoop
	case len(p.edges) == 192:
		return api.ErrMsfFull
	}
	p.edges = append(p.edges, api.Edge{ID: id, U: u, V: v, Weight: weight})
	slices.SortFunc(p.edges, byWeight)
	return api.OK
}

func (p *plain) Delete(id int) api.Errno {
	i := p.find(id)
	if i < 0 {
		return api.ErrMsfEdge
	}
	p.edges = slices.Delete(p.edges, i, i+1)
	return api.OK
}

func (p *plain) In(id int) (bool, api.Errno) {
	i := p.find(id)
	if i < 0 {
		return false, api.ErrMsfEdge
	}
	return slices.Contains(p.forest(), p.edges[i]), api.OK
}

// Bottleneck is the edge that is the last one to make a way, if they come from the least heavy one on.
func (p *plain) Bottleneck(u, v int) (api.Edge, api.Errno) {
	if p.none(u, v) {
		return api.Edge{}, api.ErrMsfVertex
	}
	if u == v {
		return api.Edge{}, api.ErrMsfPath
	}
	lighter := newGroups(p.n)
	for _, x := range p.edges {
		lighter.join(x.U, x.V)
		if lighter.of(u) == lighter.of(v) {
			return x, api.OK
		}
	}
	return api.Edge{}, api.ErrMsfPath
}

func (p *plain) Weight() int {
	sum := 0
	for _, x := range p.forest() {
		sum += x.Weight
	}
	return sum
}

func (p *plain) All() []int {
	var ids []int
	for _, x := range p.forest() {
		ids = append(ids, x.ID)
	}
	slices.Sort(ids)
	return ids
}

// groups of vertices: of each one that is over it, or itself.
type groups []int

func newGroups(n int) groups {
	g := make(groups, n)
	for v := range n {
		g[v] = v
	}
	return g
}

func (g groups) of(v int) int {
	for g[v] != v {
		v = g[v]
	}
	return v
}

// join makes one of two groups; false, if they were one.
func (g groups) join(u, v int) bool {
	u, v = g.of(u), g.of(v)
	g[v] = u
	return u != v
}

// The calls: those ahead of callIn change something.
const (
	callInsert = iota
	callDelete
	callIn
	callBottleneck
	callWeight
	callAll
	callsInAll
)

// call is one of the calls with its arguments, as far as it has them.
type call struct {
	which, id, u, v, weight int
}

// do makes a call; all that it answers, as a text.
func do(g graph, c call) string {
	switch c.which {
	case callInsert:
		return fmt.Sprint(g.Insert(c.id, c.u, c.v, c.weight))
	case callDelete:
		return fmt.Sprint(g.Delete(c.id))
	case callIn:
		return fmt.Sprint(g.In(c.id))
	case callBottleneck:
		return fmt.Sprint(g.Bottleneck(c.u, c.v))
	case callWeight:
		return fmt.Sprint(g.Weight())
	case callAll:
		return fmt.Sprint(g.All())
	}
	return ""
}
