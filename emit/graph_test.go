package emit_test

import (
	"testing"

	"isthmus/api"
	"isthmus/store"
)

func newStore(t *testing.T) *store.Store {
	t.Helper()
	s, e := store.New(64, 192)
	if e != api.OK {
		t.Fatal(e)
	}
	return s
}

// docGraph is that of DOC.md's examples.
func docGraph(t *testing.T) *store.Store {
	t.Helper()
	s := newStore(t)
	for i := 1; i <= 5; i++ {
		s.AddVertex(i, 10*i)
	}
	for _, x := range []api.Edge{{ID: 11, U: 1, V: 2, Weight: 4}, {ID: 12, U: 2, V: 3, Weight: 7}, {ID: 13, U: 1, V: 3, Weight: 9}, {ID: 14, U: 3, V: 4, Weight: 2}} {
		s.AddEdge(x.ID, x.U, x.V, x.Weight)
	}
	s.AddSet("few")
	for _, v := range []int{1, 4, 5} {
		s.Put("few", v)
	}
	return s
}

// drawnGraph is one of up to seven vertices, with the sets few, many and even.
func drawnGraph(t *testing.T, next func(int) int) *store.Store {
	s := newStore(t)
	many := 7
	if next(4) == 0 {
		many = next(7)
	}
	for i := 1; i <= many; i++ {
		s.AddVertex(i, next(2001)-1000)
	}
	for id := range next(10) {
		s.AddEdge(id, 1+next(7), 1+next(7), next(21)-10)
	}
	for _, name := range []string{"few", "many", "even"} {
		s.AddSet(name)
	}
	for i := 1; i <= many; i++ {
		if next(3) == 0 {
			s.Put("few", i)
		}
		if next(4) > 0 {
			s.Put("many", i)
		}
		if i%2 == 0 {
			s.Put("even", i)
		}
	}
	return s
}
