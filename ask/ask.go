// Package ask is what layers that run queries have in common: what a store answers to them, or the fault that stands for what it refuses.
package ask

import (
	"slices"

	"isthmus/api"
	"isthmus/reckon"
	"isthmus/store"
)

// Vertex is a vertex that must be there, or a fault.
func Vertex(s *store.Store, id int) (worth, fault int) {
	if !s.Has(id) {
		return 0, api.FaultVertex
	}
	return id, reckon.NoFault
}

// Call is what a call of some vertices comes to, or a fault.
func Call(s *store.Store, which int, of []int) (worth, fault int) {
	n, e := answered(s, which, of)
	switch e {
	case api.OK:
		return n, reckon.NoFault
	case api.ErrStorePath:
		return 0, api.FaultEmpty
	}
	return 0, api.FaultVertex
}

func answered(s *store.Store, which int, of []int) (int, api.Errno) {
	switch which {
	case api.CallConnected:
		is, e := s.Connected(of[0], of[1])
		return reckon.Truth(is), e
	case api.CallBlock:
		is, e := s.Block(of[0], of[1])
		return reckon.Truth(is), e
	case api.CallBottleneck:
		return s.Bottleneck(of[0], of[1])
	case api.CallSize:
		return s.Size(of[0])
	case api.CallTotal:
		return s.Total(of[0])
	case api.CallLeast:
		return s.Least(of[0])
	case api.CallMost:
		return s.Most(of[0])
	case api.CallValue:
		return s.Value(of[0])
	case api.CallDegree:
		return s.Degree(of[0])
	}
	return s.Rep(of[0]) // CallRep
}

// All is all vertices, rising.
func All(s *store.Store) []int {
	var ids []int
	for _, v := range s.Vertices() {
		ids = append(ids, v.ID)
	}
	return ids
}

// Named is the vertices of a named set, rising, or a fault.
func Named(s *store.Store, name string) (ids []int, fault int) {
	ids, e := s.Members(name)
	if e != api.OK {
		return nil, api.FaultSet
	}
	return ids, reckon.NoFault
}

// Around is the vertices of a vertex's component, rising, or a fault.
func Around(s *store.Store, id int) (ids []int, fault int) {
	ids, e := s.Around(id)
	if e != api.OK {
		return nil, api.FaultVertex
	}
	return ids, reckon.NoFault
}

// List is these vertices, each once, rising.
func List(ids []int) []int {
	return slices.Compact(slices.Sorted(slices.Values(ids)))
}
