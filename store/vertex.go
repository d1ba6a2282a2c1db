package store

import (
	"cmp"
	"slices"

	"isthmus/api"
	"isthmus/vset"
)

// vertex is one that is there, and its slot: the number by which the layers below know it.
type vertex struct {
	api.Vertex
	slot int
}

// vertexPlace is a vertex's place in the list, or the one where it would stand.
func (s *Store) vertexPlace(id int) (int, bool) {
	return slices.BinarySearchFunc(s.vertices, id, func(x vertex, id int) int { return cmp.Compare(x.ID, id) })
}

// vertex is that of an ID.
func (s *Store) vertex(id int) (vertex, error) {
	i, is := s.vertexPlace(id)
	if !is {
		return vertex{}, refused(api.ErrStoreNone)
	}
	return s.vertices[i], nil
}

// slots are those of two vertices.
func (s *Store) slots(u, v int) (int, int, error) {
	first, err := s.vertex(u)
	if err != nil {
		return 0, 0, err
	}
	second, err := s.vertex(v)
	if err != nil {
		return 0, 0, err
	}
	return first.slot, second.slot, nil
}

func (s *Store) addVertex(id, value int) error {
	if !isID(id) || !isValue(value) {
		return refused(api.ErrArg)
	}
	i, is := s.vertexPlace(id)
	if is {
		return refused(api.ErrStoreTwice)
	}
	slot := s.free.Next(0)
	if slot < 0 {
		return refused(api.ErrStoreFull)
	}
	s.free, _ = s.free.Without(slot)
	s.tours.SetValue(slot, value)
	s.vertices = slices.Insert(s.vertices, i, vertex{Vertex: api.Vertex{ID: id, Value: value}, slot: slot})
	return nil
}

func (s *Store) dropVertex(id int) error {
	i, is := s.vertexPlace(id)
	if !is {
		return refused(api.ErrStoreNone)
	}
	if s.ends(id) > 0 {
		return refused(api.ErrStoreBusy)
	}
	slot := s.vertices[i].slot
	s.free, _ = s.free.With(slot)
	s.sets.Purge(slot) // another vertex may come to the slot
	s.vertices = slices.Delete(s.vertices, i, i+1)
	return nil
}

func (s *Store) setValue(id, value int) error {
	i, is := s.vertexPlace(id)
	if !is {
		return refused(api.ErrStoreNone)
	}
	if e := s.tours.SetValue(s.vertices[i].slot, value); e != api.OK {
		return wrapped(e, api.ErrArg)
	}
	s.vertices[i].Value = value
	return nil
}

// sum is what the values of a vertex's component come to.
func (s *Store) sum(id int) (api.Agg, error) {
	v, err := s.vertex(id)
	if err != nil {
		return api.Agg{}, err
	}
	sum, e := s.tours.Sum(v.slot)
	return sum, wrapped(e, api.ErrStoreNone)
}

// around are the vertices of a component, rising.
func (s *Store) around(id int) ([]int, error) {
	v, err := s.vertex(id)
	if err != nil {
		return nil, err
	}
	walk, e := s.tours.Walk(v.slot)
	if e != api.OK {
		return nil, wrapped(e, api.ErrStoreNone)
	}
	slots, e := vset.Of(walk...)
	return s.ids(slots), wrapped(e, api.ErrStoreNone)
}

// ids are those of the vertices in some slots, rising.
func (s *Store) ids(slots vset.Set) []int {
	var ids []int
	for _, x := range s.vertices {
		if slots.Has(x.slot) {
			ids = append(ids, x.ID)
		}
	}
	return ids
}

// isID asks whether a number may be an ID.
func isID(n int) bool {
	return n >= 0 && n <= api.MaxID
}

// isValue asks whether a number may be a value or a weight.
func isValue(n int) bool {
	return n >= -api.MaxValue && n <= api.MaxValue
}
