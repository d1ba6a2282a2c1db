package store

import (
	"isthmus/api"
	"isthmus/vset"
)

func (s *Store) addSet(name string) error {
	e := s.sets.Add(name)
	return wrapped(e, e) // what is refused of a set is told as it is
}

func (s *Store) dropSet(name string) error {
	e := s.sets.Drop(name)
	return wrapped(e, e)
}

// change lays another set in the place of one: what it is with a vertex, or without it.
func (s *Store) change(name string, id int, made func(set vset.Set, slot int) (vset.Set, api.Errno)) error {
	set, e := s.sets.Get(name)
	if e != api.OK {
		return wrapped(e, e)
	}
	v, err := s.vertex(id)
	if err != nil {
		return err
	}
	set, e = made(set, v.slot)
	if e != api.OK {
		return wrapped(e, api.ErrStoreNone)
	}
	e = s.sets.Lay(name, set)
	return wrapped(e, e)
}

// members are the vertices in a set, rising.
func (s *Store) members(name string) ([]int, error) {
	set, e := s.sets.Get(name)
	return s.ids(set), wrapped(e, e)
}
