package engine_test

import (
	"fmt"
	"slices"
	"testing"

	"isthmus/api"
	"isthmus/store"
)

func newStore(t *testing.T) *store.Store {
	t.Helper()
	s, e := store.New(64, 192)
	if e != api.OK {
		t.Fatal(e)
	}
	return s
}

// docGraph is that of DOC.md's examples.
func docGraph(t *testing.T) *store.Store {
	t.Helper()
	s := newStore(t)
	for i := 1; i <= 5; i++ {
		s.AddVertex(i, 10*i)
	}
	for _, x := range []api.Edge{{ID: 11, U: 1, V: 2, Weight: 4}, {ID: 12, U: 2, V: 3, Weight: 7}, {ID: 13, U: 1, V: 3, Weight: 9}, {ID: 14, U: 3, V: 4, Weight: 2}} {
		s.AddEdge(x.ID, x.U, x.V, x.Weight)
	}
	s.AddSet("few")
	for _, v := range []int{1, 4, 5} {
		s.Put("few", v)
	}
	return s
}

// drawnGraph is one of up to eight vertices, 0 among them or not, with the sets few, many and even.
func drawnGraph(t *testing.T, next func(int) int) *store.Store {
	t.Helper()
	s := newStore(t)
	first, last := next(2), 7
	if next(4) == 0 {
		last = next(7)
	}
	for _, name := range names[:3] {
		s.AddSet(name)
	}
	for i := last; i >= first; i-- {
		s.AddVertex(i, next(2001)-1000)
		if next(3) == 0 {
			s.Put("few", i)
		}
		if next(4) > 0 {
			s.Put("many", i)
		}
		if i%2 == 0 {
			s.Put("even", i)
		}
	}
	for id := range next(10) {
		s.AddEdge(id, next(8), next(8), next(21)-10)
	}
	return s
}

// drawnGraphs are DOC.md's, one without anything, and so many drawn ones.
func drawnGraphs(t *testing.T, many int) []*store.Store {
	t.Helper()
	next := numbers()
	graphs := []*store.Store{docGraph(t), newStore(t)}
	for range many {
		graphs = append(graphs, drawnGraph(t, next))
	}
	return graphs
}

// alter does one thing to some stores, which must answer the same.
func alter(t *testing.T, next func(int) int, stores ...*store.Store) {
	t.Helper()
	which, id, u, v, n, name := next(11), next(12), next(8), next(8), next(41)-20, names[next(3)]
	var first api.Errno
	for i, s := range stores {
		e := map[int]func() api.Errno{
			0:  func() api.Errno { return s.AddVertex(u, n) },
			1:  func() api.Errno { return s.DropVertex(u) },
			2:  func() api.Errno { return s.SetValue(u, n) },
			3:  func() api.Errno { return s.AddEdge(id, u, v, n) },
			4:  func() api.Errno { return s.AddEdge(id, v, u, n) },
			5:  func() api.Errno { return s.DropEdge(id) },
			6:  func() api.Errno { return s.SetWeight(id, n) },
			7:  func() api.Errno { return s.AddSet(name) },
			8:  func() api.Errno { return s.DropSet(name) },
			9:  func() api.Errno { return s.Put(name, u) },
			10: func() api.Errno { return s.Take(name, u) },
		}[which]()
		if i == 0 {
			first = e
		}
		if e != first {
			t.Fatalf("%d and %d of change %d", first, e, which)
		}
	}
}

// everything is all that a store can be asked, as a text.
func everything(s *store.Store) string {
	text := fmt.Sprintln(s.Vertices(), s.Edges(), s.Sets(), s.Forest(), s.Bridges())
	for _, name := range names {
		text += fmt.Sprintln(s.Members(name))
	}
	for u := range 10 {
		for _, ask := range []func(int) (int, api.Errno){s.Value, s.Degree, s.Size, s.Total, s.Least, s.Most, s.Rep} {
			text += fmt.Sprintln(ask(u))
		}
		text += fmt.Sprintln(s.Has(u))
		text += fmt.Sprintln(s.Around(u))
		for v := range 10 {
			text += fmt.Sprintln(s.Connected(u, v))
			text += fmt.Sprintln(s.Block(u, v))
			text += fmt.Sprintln(s.Bottleneck(u, v))
		}
	}
	return text
}

// facts are what a store lists: all else is found out when it is asked.
type facts struct {
	vertices []api.Vertex
	edges    []api.Edge
	sets     map[string][]int
}

func factsOf(s *store.Store) facts {
	f := facts{vertices: s.Vertices(), edges: s.Edges(), sets: map[string][]int{}}
	for _, name := range s.Sets() {
		f.sets[name], _ = s.Members(name)
	}
	return f
}

func (f facts) ids() []int {
	var ids []int
	for _, v := range f.vertices {
		ids = append(ids, v.ID)
	}
	return ids
}

func (f facts) value(id int) int { return f.vertices[slices.Index(f.ids(), id)].Value }

func (f facts) degree(id int) int {
	many := 0
	for _, x := range f.edges {
		many += truth(x.U == id) + truth(x.V == id)
	}
	return many
}

// reach is all vertices to which there is a way from one, over some edges, rising.
func reach(edges []api.Edge, from int) []int {
	been := []int{from}
	for i := 0; i < len(been); i++ {
		for _, x := range edges {
			for _, step := range [][2]int{{x.U, x.V}, {x.V, x.U}} {
				if step[0] == been[i] && !slices.Contains(been, step[1]) {
					been = append(been, step[1])
				}
			}
		}
	}
	slices.Sort(been)
	return been
}

// values are those of a component, rising.
func (f facts) values(id int) []int {
	var l []int
	for _, v := range reach(f.edges, id) {
		l = append(l, f.value(v))
	}
	slices.Sort(l)
	return l
}

func (f facts) block(u, v int) bool {
	var l []api.Edge
	for i, x := range f.edges {
		if slices.Contains(reach(slices.Delete(slices.Clone(f.edges), i, i+1), x.U), x.V) {
			l = append(l, x)
		}
	}
	return slices.Contains(reach(l, u), v)
}

// bottleneck is the least weight such that there is a way over edges of at most that weight.
func (f facts) bottleneck(u, v int) (int, bool) {
	var weights []int
	for _, x := range f.edges {
		weights = append(weights, x.Weight)
	}
	slices.Sort(weights)
	for _, w := range weights {
		light := slices.DeleteFunc(slices.Clone(f.edges), func(x api.Edge) bool { return x.Weight > w })
		if u != v && slices.Contains(reach(light, u), v) {
			return w, true
		}
	}
	return 0, false
}
