package store

import (
	"cmp"
	"slices"

	"isthmus/api"
	"isthmus/bridge"
)

// edge is one that is there, and the slots of its ends: no vertex that has edges goes from its slot.
type edge struct {
	api.Edge
	u, v int
}

// edgePlace is an edge's place in the list, or the one where it would stand.
func (s *Store) edgePlace(id int) (int, bool) {
	return slices.BinarySearchFunc(s.edges, id, func(x edge, id int) int { return cmp.Compare(x.ID, id) })
}

// ends is of how many edges a vertex is an end.
func (s *Store) ends(id int) int {
	many := 0
	for _, x := range s.edges {
		if x.U == id || x.V == id {
			many++
		}
	}
	return many
}

func (s *Store) addEdge(x api.Edge) error {
	if !isID(x.ID) || !isValue(x.Weight) {
		return refused(api.ErrArg)
	}
	i, is := s.edgePlace(x.ID)
	if is {
		return refused(api.ErrStoreTwice)
	}
	u, v, err := s.slots(x.U, x.V)
	if err != nil {
		return err
	}
	if u == v {
		return refused(api.ErrStoreLoop)
	}
	if len(s.edges) >= s.room {
		return refused(api.ErrStoreFull)
	}
	s.edges = slices.Insert(s.edges, i, edge{Edge: x, u: u, v: v})
	s.levels.Insert(x.ID, u, v)
	s.forest.Insert(x.ID, u, v, x.Weight)
	s.oracle = nil
	s.lead(s.edges[i])
	return nil
}

func (s *Store) dropEdge(id int) error {
	_, spans, e := s.levels.Level(id)
	if e != api.OK {
		return wrapped(e, api.ErrStoreNone)
	}
	i, _ := s.edgePlace(id)
	gone := s.edges[i]
	s.edges = slices.Delete(s.edges, i, i+1)
	s.levels.Delete(id)
	s.forest.Delete(id)
	s.oracle = nil
	if !spans {
		return nil
	}
	s.tours.Cut(gone.u, gone.v)
	for _, x := range s.edges { // one of them may be of the forest in its place
		s.lead(x)
	}
	return nil
}

// lead lets the tours go along an edge, if it is one of the forest that spans the components. Along one that they go along they don't go again: it is refused within one tree.
func (s *Store) lead(x edge) {
	if _, spans, _ := s.levels.Level(x.ID); spans {
		s.tours.Link(x.u, x.v)
	}
}

func (s *Store) setWeight(id, weight int) error {
	i, is := s.edgePlace(id)
	if !is {
		return refused(api.ErrStoreNone)
	}
	if !isValue(weight) {
		return refused(api.ErrArg)
	}
	x := &s.edges[i]
	x.Weight = weight
	s.forest.Delete(id)
	s.forest.Insert(id, x.u, x.v, weight)
	return nil
}

func (s *Store) connected(u, v int) (bool, error) {
	first, second, err := s.slots(u, v)
	if err != nil {
		return false, err
	}
	is, e := s.levels.Connected(first, second)
	return is, wrapped(e, api.ErrStoreNone)
}

func (s *Store) block(u, v int) (bool, error) {
	first, second, err := s.slots(u, v)
	if err != nil {
		return false, err
	}
	is, e := s.blocks().Same(first, second)
	return is, wrapped(e, api.ErrStoreNone)
}

func (s *Store) bottleneck(u, v int) (int, error) {
	first, second, err := s.slots(u, v)
	if err != nil {
		return 0, err
	}
	most, e := s.forest.Bottleneck(first, second)
	return most.Weight, wrapped(e, api.ErrStorePath)
}

// blocks is the oracle of the edges as they stand: it is asked for anew only if edges came or went since.
func (s *Store) blocks() *bridge.Oracle {
	if s.oracle == nil {
		var l []api.Edge
		for _, x := range s.edges {
			l = append(l, api.Edge{ID: x.ID, U: x.u, V: x.v})
		}
		s.oracle, _ = bridge.Of(api.MaxVertices, l)
	}
	return s.oracle
}
