package guard

import (
	"slices"

	"isthmus/api"
	"isthmus/pack"
)

// word is one of right code, in its parts.
type word struct {
	op, a, b int
}

func partsOf(w uint64) word {
	op, a, b := pack.Parts(w)
	return word{op, a, b}
}

// effect is the kinds that a word pops, the top last, and those that it pushes. What OpHalt pops, and what OpFetch pushes where it leads to, is not told here.
func (w word) effect(cells []int) (pops, pushes []int) {
	switch w.op {
	case api.OpConst:
		return nil, []int{w.b}
	case api.OpVertex, api.OpVar:
		return nil, []int{api.KindVertex}
	case api.OpNeg:
		return []int{api.KindInt}, []int{api.KindInt}
	case api.OpNot:
		return []int{api.KindBool}, []int{api.KindBool}
	case api.OpAdd, api.OpSub, api.OpMul, api.OpDiv, api.OpRem:
		return []int{api.KindInt, api.KindInt}, []int{api.KindInt}
	case api.OpEq:
		return []int{w.b, w.b}, []int{api.KindBool}
	case api.OpLess:
		return []int{api.KindInt, api.KindInt}, []int{api.KindBool}
	case api.OpFalse, api.OpTrue, api.OpSome:
		return []int{api.KindBool}, nil
	case api.OpCall:
		return callEffect(w.a)
	case api.OpKeep:
		return []int{cells[w.a]}, []int{cells[w.a]}
	case api.OpAround:
		return vertices(1), nil
	case api.OpList:
		return vertices(w.a), nil
	case api.OpBest:
		return []int{api.KindInt, api.KindBool, api.KindInt}, []int{api.KindInt, api.KindBool}
	}
	return nil, nil
}

func callEffect(which int) (pops, pushes []int) {
	switch which {
	case api.CallConnected, api.CallBlock:
		return vertices(2), []int{api.KindBool}
	case api.CallBottleneck:
		return vertices(2), []int{api.KindInt}
	case api.CallRep:
		return vertices(1), []int{api.KindVertex}
	}
	return vertices(1), []int{api.KindInt}
}

func vertices(many int) []int { return slices.Repeat([]int{api.KindVertex}, many) }

// fits tells whether a word may stand where so many rounds are open.
func (w word) fits(rounds int) bool {
	switch w.op {
	case api.OpVar:
		return w.a < rounds
	case api.OpAll, api.OpNamed, api.OpAround, api.OpList:
		return rounds < api.MaxQuants
	case api.OpNext, api.OpClose:
		return rounds > 0
	}
	return true
}

// opens is by how many more rounds are open behind a word.
func (w word) opens() int {
	switch w.op {
	case api.OpAll, api.OpNamed, api.OpAround, api.OpList:
		return 1
	case api.OpClose:
		return -1
	}
	return 0
}

// leads is the number of the word to which one leads; false, if it leads nowhere but onward.
func (w word) leads() (int, bool) {
	switch w.op {
	case api.OpJump, api.OpFalse, api.OpTrue, api.OpNext:
		return w.a, true
	case api.OpFetch:
		return w.b, true
	}
	return 0, false
}
