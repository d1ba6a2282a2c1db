package guard

import (
	"math/bits"
	"slices"

	"isthmus/api"
)

// viewer looks at the words of right code.
type viewer struct {
	code    api.Code
	states  []*state // with which words were come to
	waiting []uint64 // a bit for each word that was come to and was not looked at
	limits  api.Limits
}

func newViewer(c api.Code) *viewer {
	many := len(c.Words)
	v := &viewer{code: c, states: make([]*state, many), waiting: make([]uint64, (many+63)/64)}
	v.come(0, state{})
	return v
}

// next is the least word that waits, and it waits no more; false, if none does.
func (v *viewer) next() (int, bool) {
	for i, group := range v.waiting {
		if group != 0 {
			v.waiting[i] = group & (group - 1)
			return 64*i + bits.TrailingZeros64(group), true
		}
	}
	return 0, false
}

// come tells that a word is come to with a state.
func (v *viewer) come(to int, s state) api.Errno {
	if to >= len(v.states) {
		return api.ErrGuardJump
	}
	if was := v.states[to]; was != nil {
		if !was.same(&s) {
			return api.ErrGuardMeet
		}
		return api.OK
	}
	v.states[to] = &s
	v.waiting[to/64] |= 1 << (to % 64)
	v.limits.Stack = max(v.limits.Stack, s.height)
	v.limits.Rounds = max(v.limits.Rounds, s.rounds)
	return api.OK
}

// look goes on from a word to those that it comes to.
func (v *viewer) look(at int) api.Errno {
	w, behind := partsOf(v.code.Words[at]), *v.states[at]
	if w.op == api.OpHalt {
		return v.halt(behind)
	}
	if e := behind.pass(w, v.code.Cells); e != api.OK {
		return e
	}
	// What OpFetch pushes must have room ahead of all that is asked of the words that are come to.
	led := behind
	if !led.lead(w, v.code.Cells) {
		return api.ErrGuardStack
	}
	if w.op != api.OpJump {
		if e := v.come(at+1, behind); e != api.OK {
			return e
		}
	}
	if to, is := w.leads(); is {
		return v.come(to, led)
	}
	return api.OK
}

func (v *viewer) halt(s state) api.Errno {
	if s.height != 1 || s.rounds != 0 {
		return api.ErrGuardStack
	}
	kind := s.pop()
	if v.limits.Kind != 0 && v.limits.Kind != kind {
		return api.ErrGuardMeet
	}
	v.limits.Kind = kind
	return api.OK
}

// pass makes a state the one behind a word.
func (s *state) pass(w word, cells []int) api.Errno {
	if !w.fits(s.rounds) {
		return api.ErrGuardStack
	}
	pops, pushes := w.effect(cells)
	for _, kind := range slices.Backward(pops) {
		if e := s.take(kind, w.op); e != api.OK {
			return e
		}
	}
	for _, kind := range pushes {
		if !s.push(kind) {
			return api.ErrGuardStack
		}
	}
	s.rounds += w.opens()
	return api.OK
}

// take pops a value, which must be of a kind.
func (s *state) take(kind, op int) api.Errno {
	switch top := s.pop(); {
	case top == kind:
		return api.OK
	case top != 0 && op == api.OpKeep:
		return api.ErrGuardCell
	}
	return api.ErrGuardStack
}

// lead makes the state behind a word the one where it leads to; false, if there is no room for that.
func (s *state) lead(w word, cells []int) bool {
	switch w.op {
	case api.OpFetch:
		return s.push(cells[w.a])
	case api.OpNext:
		s.rounds--
	}
	return true
}
