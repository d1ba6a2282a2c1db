package tour_test

import (
	"fmt"
	"slices"

	"isthmus/api"
)

// tours is what both Tours and plain ones can be asked.
type tours interface {
	Link(u, v int) api.Errno
	Cut(u, v int) api.Errno
	Reroot(v int) api.Errno
	Same(u, v int) (bool, api.Errno)
	Walk(v int) ([]int, api.Errno)
	SetValue(v, x int) api.Errno
	Sum(v int) (api.Agg, api.Errno)
	Mark(v int, on bool) api.Errno
	Marked(v int) (int, api.Errno)
	MarkEdge(u, v int, on bool) api.Errno
	MarkedEdge(v int) (api.Pair, api.Errno)
}

// plain is tours by the words of the chapter: lists of stops (of which both ends are one) and of steps.
type plain struct {
	rows   [][]api.Pair
	values []int
	marked []bool
	edges  map[api.Pair]bool // the marked ones, both ways
}

func newPlain(n int) *plain {
	p := &plain{values: make([]int, n), marked: make([]bool, n), edges: map[api.Pair]bool{}}
	for v := range n {
		p.rows = append(p.rows, []api.Pair{{U: v, V: v}})
	}
	return p
}

func (p *plain) none(vertices ...int) bool {
	return slices.ContainsFunc(vertices, func(v int) bool { return v < 0 || v >= len(p.values) })
}

// find tells in which row a stop or a step stands, and where in it.
func (p *plain) find(s api.Pair) (int, int, bool) {
	for i, row := range p.rows {
		if j := slices.Index(row, s); j >= 0 {
			return i, j, true
		}
	}
	return 0, 0, false
}

// edge tells in which row an edge's two steps stand, and where in it.
func (p *plain) edge(u, v int) (int, int, int, api.Errno) {
	if p.none(u, v) {
		return 0, 0, 0, api.ErrTourVertex
	}
	i, j, is := p.find(api.Pair{U: u, V: v})
	if !is || u == v {
		return 0, 0, 0, api.ErrTourEdge
	}
	_, k, _ := p.find(api.Pair{U: v, V: u})
	return i, min(j, k), max(j, k), api.OK
}

// row is a vertex's tour.
func (p *plain) row(v int) []api.Pair {
	i, _, _ := p.find(api.Pair{U: v, V: v})
	return p.rows[i]
}

// turned is a vertex's tour as it would begin at it.
func (p *plain) turned(v int) []api.Pair {
	i, j, _ := p.find(api.Pair{U: v, V: v})
	return slices.Concat(p.rows[i][j:], p.rows[i][:j])
}

func (p *plain) Link(u, v int) api.Errno {
	same, e := p.Same(u, v)
	if e != api.OK {
		return e
	}
	if same {
		return api.ErrTourSame
	}
	i, j, _ := p.find(api.Pair{U: u, V: u})
	k, _, _ := p.find(api.Pair{U: v, V: v})
	p.rows[i] = slices.Concat(p.rows[i][:j+1], []api.Pair{{U: u, V: v}}, p.turned(v), []api.Pair{{U: v, V: u}}, p.rows[i][j+1:])
	p.rows = slices.Delete(p.rows, k, k+1)
	return api.OK
}

func (p *plain) Cut(u, v int) api.Errno {
	i, j, k, e := p.edge(u, v)
	if e != api.OK {
		return e
	}
	row := p.rows[i]
	p.rows[i] = slices.Clone(row[j+1 : k])
	p.rows = append(p.rows, slices.Concat(row[:j], row[k+1:]))
	delete(p.edges, api.Pair{U: u, V: v})
	delete(p.edges, api.Pair{U: v, V: u})
	return api.OK
}

func (p *plain) Reroot(v int) api.Errno {
	if p.none(v) {
		return api.ErrTourVertex
	}
	i, _, _ := p.find(api.Pair{U: v, V: v})
	p.rows[i] = p.turned(v)
	return api.OK
}

func (p *plain) Same(u, v int) (bool, api.Errno) {
	if p.none(u, v) {
		return false, api.ErrTourVertex
	}
	i, _, _ := p.find(api.Pair{U: u, V: u})
	j, _, _ := p.find(api.Pair{U: v, V: v})
	return i == j, api.OK
}

func (p *plain) Walk(v int) ([]int, api.Errno) {
	if p.none(v) {
		return nil, api.ErrTourVertex
	}
	var l []int
	for _, s := range p.row(v) {
		if s.U == s.V {
			l = append(l, s.U)
		}
	}
	return l, api.OK
}

func (p *plain) SetValue(v, x int) api.Errno {
	if p.none(v) {
		return api.ErrTourVertex
	}
	if x < -1<<40 || x > 1<<40 {
		return api.ErrArg
	}
	p.values[v] = x
	return api.OK
}

func (p *plain) Sum(v int) (api.Agg, api.Errno) {
	l, e := p.Walk(v)
	if e != api.OK {
		return api.Agg{}, e
	}
	a := api.Agg{Count: len(l), Least: p.values[v], Most: p.values[v]}
	for _, w := range l {
		a.Sum += p.values[w]
		a.Least = min(a.Least, p.values[w])
		a.Most = max(a.Most, p.values[w])
	}
	if _, e := p.Marked(v); e == api.OK {
		a.Flags++
	}
	if _, e := p.MarkedEdge(v); e == api.OK {
		a.Flags += 2
	}
	return a, api.OK
}

func (p *plain) Mark(v int, on bool) api.Errno {
	if p.none(v) {
		return api.ErrTourVertex
	}
	p.marked[v] = on
	return api.OK
}

func (p *plain) Marked(v int) (int, api.Errno) {
	l, e := p.Walk(v)
	if e != api.OK {
		return 0, e
	}
	for _, w := range l {
		if p.marked[w] {
			return w, api.OK
		}
	}
	return 0, api.ErrTourMark
}

func (p *plain) MarkEdge(u, v int, on bool) api.Errno {
	if _, _, _, e := p.edge(u, v); e != api.OK {
		return e
	}
	p.edges[api.Pair{U: u, V: v}] = on
	p.edges[api.Pair{U: v, V: u}] = on
	return api.OK
}

func (p *plain) MarkedEdge(v int) (api.Pair, api.Errno) {
	if p.none(v) {
		return api.Pair{}, api.ErrTourVertex
	}
	for _, s := range p.row(v) {
		if p.edges[s] {
			return s, api.OK
		}
	}
	return api.Pair{}, api.ErrTourMark
}

// The calls: those ahead of callSame change something.
const (
	callLink = iota
	callCut
	callReroot
	callSetValue
	callMark
	callMarkEdge
	callSame
	callWalk
	callSum
	callMarked
	callMarkedEdge
	callsInAll
)

// call is one of the calls with its arguments, as far as it has them.
type call struct {
	which, u, v, x int
	on             bool
}

// do makes a call; all that it answers, as a text.
func do(t tours, c call) string {
	switch c.which {
	case callLink:
		return fmt.Sprint(t.Link(c.u, c.v))
	case callCut:
		return fmt.Sprint(t.Cut(c.u, c.v))
	case callReroot:
		return fmt.Sprint(t.Reroot(c.v))
	case callSetValue:
		return fmt.Sprint(t.SetValue(c.v, c.x))
	case callMark:
		return fmt.Sprint(t.Mark(c.v, c.on))
	case callMarkEdge:
		return fmt.Sprint(t.MarkEdge(c.u, c.v, c.on))
	case callSame:
		return fmt.Sprint(t.Same(c.u, c.v))
	case callWalk:
		return fmt.Sprint(t.Walk(c.v))
	case callSum:
		return fmt.Sprint(t.Sum(c.v))
	case callMarked:
		return fmt.Sprint(t.Marked(c.v))
	case callMarkedEdge:
		return fmt.Sprint(t.MarkedEdge(c.v))
	}
	return ""
}
