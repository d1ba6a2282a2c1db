package plan

import (
	"isthmus/api"
	"isthmus/reckon"
	"isthmus/store"
)

// called is what a call of the store comes to, or a fault.
func called(s *store.Store, which int, of []int) (int, int) {
	n, e := answered(s, which, of)
	switch e {
	case api.OK:
		return n, reckon.NoFault
	case api.ErrStorePath:
		return 0, api.FaultEmpty
	}
	return 0, api.FaultVertex
}

func answered(s *store.Store, which int, of []int) (int, api.Errno) {
	switch which {
	case api.CallConnected:
		is, e := s.Connected(of[0], of[1])
		return reckon.Truth(is), e
	case api.CallBlock:
		is, e := s.Block(of[0], of[1])
		return reckon.Truth(is), e
	case api.CallBottleneck:
		return s.Bottleneck(of[0], of[1])
	case api.CallSize:
		return s.Size(of[0])
	case api.CallTotal:
		return s.Total(of[0])
	case api.CallLeast:
		return s.Least(of[0])
	case api.CallMost:
		return s.Most(of[0])
	case api.CallValue:
		return s.Value(of[0])
	case api.CallDegree:
		return s.Degree(of[0])
	}
	return s.Rep(of[0]) // CallRep
}
