package levels_test

import (
	"fmt"
	"slices"

	"isthmus/api"
)

// graph is what both Levels and plain ones can be asked. (Which edges are of the forest, and of which levels, is Levels' own business.)
type graph interface {
	Insert(id, u, v int) api.Errno
	Delete(id int) api.Errno
	Connected(u, v int) (bool, api.Errno)
	Size(v int) (int, api.Errno)
	Least(v int) (int, api.Errno)
	Parts() int
}

// plain is a graph by the words of the chapter: a list of edges, in which ways are looked for.
type plain struct {
	n     int
	edges []api.Edge
}

func newPlain(n int) *plain {
	return &plain{n: n}
}

func (p *plain) none(vertices ...int) bool {
	return slices.ContainsFunc(vertices, func(v int) bool { return v < 0 || v >= p.n })
}

func (p *plain) find(id int) int {
	return slices.IndexFunc(p.edges, func(x api.Edge) bool { return x.ID == id })
}

// around is the vertices to which edges lead from a vertex, in rising order.
func around(edges []api.Edge, v int) []int {
	in := []int{v}
	for i := 0; i < len(in); i++ {
		for _, x := range edges {
			if (x.U == in[i] || x.V == in[i]) && !slices.Contains(in, x.U+x.V-in[i]) {
				in = append(in, x.U+x.V-in[i])
			}
		}
	}
	slices.Sort(in)
	return in
}

func (p *plain) Insert(id, u, v int) api.Errno {
	switch {
	case p.none(u, v):
		return api.ErrLevelVertex
	case id < 0 || id > 1<<40:
		return api.ErrArg
	case p.find(id) >= 0:
		return api.ErrLevelTwice
	case u == v:
		return api.ErrLevelLoop
	case len(p.edges) == 192:
		return api.ErrLevelFull
	}
	p.edges = append(p.edges, api.Edge{ID: id, U: u, V: v})
	return api.OK
}

func (p *plain) Delete(id int) api.Errno {
	i := p.find(id)
	if i < 0 {
		return api.ErrLevelEdge
	}
	p.edges = slices.Delete(p.edges, i, i+1)
	return api.OK
}

func (p *plain) Connected(u, v int) (bool, api.Errno) {
	if p.none(u, v) {
		return false, api.ErrLevelVertex
	}
	return slices.Contains(around(p.edges, u), v), api.OK
}

func (p *plain) Size(v int) (int, api.Errno) {
	if p.none(v) {
		return 0, api.ErrLevelVertex
	}
	return len(around(p.edges, v)), api.OK
}

func (p *plain) Least(v int) (int, api.Errno) {
	if p.none(v) {
		return 0, api.ErrLevelVertex
	}
	return around(p.edges, v)[0], api.OK
}

func (p *plain) Parts() int {
	parts := 0
	for v := range p.n {
		if around(p.edges, v)[0] == v {
			parts++
		}
	}
	return parts
}

// The calls: those ahead of callConnected change something.
const (
	callInsert = iota
	callDelete
	callConnected
	callSize
	callLeast
	callParts
	callsInAll
)

// call is one of the calls with its arguments, as far as it has them.
type call struct {
	which, id, u, v int
}

// do makes a call; all that it answers, as a text.
func do(g graph, c call) string {
	switch c.which {
	case callInsert:
		return fmt.Sprint(g.Insert(c.id, c.u, c.v))
	case callDelete:
		return fmt.Sprint(g.Delete(c.id))
	case callConnected:
		return fmt.Sprint(g.Connected(c.u, c.v))
	case callSize:
		return fmt.Sprint(g.Size(c.v))
	case callLeast:
		return fmt.Sprint(g.Least(c.v))
	case callParts:
		return fmt.Sprint(g.Parts())
	}
	return ""
}
