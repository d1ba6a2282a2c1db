package guard

import "isthmus/api"

// A kind has room in two bits, and none is 0: so a whole stack is a short array.
const (
	kindBits = 2
	kindMask = 1<<kindBits - 1
	inGroup  = 64 / kindBits
	groups   = api.MaxStack / inGroup
)

// state is the kinds of the values on the stack, and the number of rounds that are open.
type state struct {
	kinds  [groups]uint64 // the lowest first, and 0 above the top
	height int
	rounds int
}

// same need not ask for the heights: as no kind is 0, the kinds tell them.
func (s *state) same(other *state) bool {
	return s.kinds == other.kinds && s.rounds == other.rounds
}

// push lays a kind on top, if there is room for it.
func (s *state) push(kind int) bool {
	if s.height == api.MaxStack {
		return false
	}
	group, shift := place(s.height)
	s.kinds[group] |= uint64(kind) << shift
	s.height++
	return true
}

// pop is the kind of the top, which is gone then; 0, if there is none.
func (s *state) pop() int {
	if s.height == 0 {
		return 0
	}
	s.height--
	group, shift := place(s.height)
	kind := s.kinds[group] >> shift & kindMask
	s.kinds[group] ^= kind << shift
	return int(kind)
}

// place is where the kind of a value stands: in which group, and above how many bits.
func place(value int) (int, int) {
	return value / inGroup, value % inGroup * kindBits
}
