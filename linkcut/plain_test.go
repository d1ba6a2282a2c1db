package linkcut_test

import (
	"fmt"
	"slices"

	"isthmus/api"
)

// trees is what both Trees and plain ones can be asked.
type trees interface {
	Link(u, v, id, weight int) api.Errno
	Cut(id int) api.Errno
	Evert(v int) api.Errno
	Root(v int) (int, api.Errno)
	Same(u, v int) (bool, api.Errno)
	Most(u, v int) (api.Edge, api.Errno)
	Path(u, v int) ([]int, api.Errno)
}

// plain is trees by the words of the chapter: a list of edges, in which ways are looked for, and each vertex's root.
type plain struct {
	roots []int
	edges []api.Edge
}

func newPlain(n int) *plain {
	p := &plain{}
	for v := range n {
		p.roots = append(p.roots, v)
	}
	return p
}

func (p *plain) none(vertices ...int) bool {
	return slices.ContainsFunc(vertices, func(v int) bool { return v < 0 || v >= len(p.roots) })
}

func (p *plain) find(id int) int {
	return slices.IndexFunc(p.edges, func(x api.Edge) bool { return x.ID == id })
}

// way is the edges from a vertex to another one, not going back over the edge that led there.
func (p *plain) way(u, v, back int) ([]api.Edge, bool) {
	if u == v {
		return nil, true
	}
	for _, x := range p.edges {
		if x.ID == back || x.U != u && x.V != u {
			continue
		}
		if rest, is := p.way(x.U+x.V-u, v, x.ID); is {
			return append([]api.Edge{x}, rest...), true
		}
	}
	return nil, false
}

// reroot lets a vertex's tree have a root.
func (p *plain) reroot(v, root int) {
	for w := range p.roots {
		if _, is := p.way(v, w, -1); is {
			p.roots[w] = root
		}
	}
}

func (p *plain) Link(u, v, id, weight int) api.Errno {
	if p.none(u, v) {
		return api.ErrCutVertex
	}
	if id < 0 || id > 1<<40 || weight < -1<<40 || weight > 1<<40 {
		return api.ErrArg
	}
	if p.find(id) >= 0 {
		return api.ErrCutTwice
	}
	if _, is := p.way(u, v, -1); is {
		return api.ErrCutSame
	}
	p.reroot(u, p.roots[v])
	p.edges = append(p.edges, api.Edge{ID: id, U: u, V: v, Weight: weight})
	return api.OK
}

func (p *plain) Cut(id int) api.Errno {
	i := p.find(id)
	if i < 0 {
		return api.ErrCutEdge
	}
	x := p.edges[i]
	hung := x.U
	if way, _ := p.way(x.U, p.roots[x.U], -1); !slices.Contains(way, x) {
		hung = x.V
	}
	p.edges = slices.Delete(p.edges, i, i+1)
	p.reroot(hung, hung)
	return api.OK
}

func (p *plain) Evert(v int) api.Errno {
	if p.none(v) {
		return api.ErrCutVertex
	}
	p.reroot(v, v)
	return api.OK
}

func (p *plain) Root(v int) (int, api.Errno) {
	if p.none(v) {
		return 0, api.ErrCutVertex
	}
	return p.roots[v], api.OK
}

func (p *plain) Same(u, v int) (bool, api.Errno) {
	if p.none(u, v) {
		return false, api.ErrCutVertex
	}
	_, is := p.way(u, v, -1)
	return is, api.OK
}

func (p *plain) Most(u, v int) (api.Edge, api.Errno) {
	if p.none(u, v) {
		return api.Edge{}, api.ErrCutVertex
	}
	way, is := p.way(u, v, -1)
	if !is || u == v {
		return api.Edge{}, api.ErrCutPath
	}
	most := way[0]
	for _, x := range way {
		if x.Weight > most.Weight || x.Weight == most.Weight && x.ID > most.ID {
			most = x
		}
	}
	return most, api.OK
}

func (p *plain) Path(u, v int) ([]int, api.Errno) {
	if p.none(u, v) {
		return nil, api.ErrCutVertex
	}
	way, is := p.way(u, v, -1)
	if !is {
		return nil, api.ErrCutPath
	}
	var ids []int
	for _, x := range way {
		ids = append(ids, x.ID)
	}
	return ids, api.OK
}

// The calls: those ahead of callRoot change something.
const (
	callLink = iota
	callCut
	callEvert
	callRoot
	callSame
	callMost
	callPath
	callsInAll
)

// call is one of the calls with its arguments, as far as it has them.
type call struct {
	which, u, v, id, weight int
}

// do makes a call; all that it answers, as a text.
func do(t trees, c call) string {
	switch c.which {
	case callLink:
		return fmt.Sprint(t.Link(c.u, c.v, c.id, c.weight))
	case callCut:
		return fmt.Sprint(t.Cut(c.id))
	case callEvert:
		return fmt.Sprint(t.Evert(c.v))
	case callRoot:
		return fmt.Sprint(t.Root(c.v))
	case callSame:
		return fmt.Sprint(t.Same(c.u, c.v))
	case callMost:
		return fmt.Sprint(t.Most(c.u, c.v))
	case callPath:
		return fmt.Sprint(t.Path(c.u, c.v))
	}
	return ""
}
