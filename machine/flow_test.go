package machine_test

import (
	"slices"
	"strings"
	"testing"

	"isthmus/api"
)

// effects are what operations pop and push, a letter for each kind, of those whose numbers change nothing of it; `+` opens a round, `-` needs one.
var effects = map[int][3]string{
	api.OpVertex: {"", "v"}, api.OpVar: {"", "v", "-"}, api.OpNeg: {"i", "i"}, api.OpNot: {"b", "b"}, api.OpAdd: {"ii", "i"}, api.OpSub: {"ii", "i"}, api.OpMul: {"ii", "i"}, api.OpDiv: {"ii", "i"}, api.OpRem: {"ii", "i"}, api.OpLess: {"ii", "b"},
	api.OpJump: {}, api.OpFalse: {"b"}, api.OpTrue: {"b"}, api.OpFetch: {}, api.OpClear: {}, api.OpAll: {"", "", "+"}, api.OpNamed: {"", "", "+"}, api.OpAround: {"v", "", "+"}, api.OpNext: {"", "", "-"}, api.OpClose: {"", "", "-"}, api.OpBest: {"ibi", "ib"}, api.OpSome: {"b"},
}

// effect is that of any word that does not halt.
func effect(op, a, b int) [3]string {
	kind := func(n int) string { return string("-ibv"[n]) }
	switch op {
	case api.OpConst:
		return [3]string{"", kind(b)}
	case api.OpEq:
		return [3]string{strings.Repeat(kind(b), 2), "b"}
	case api.OpKeep:
		return [3]string{kind(a + 1), kind(a + 1)}
	case api.OpList:
		return [3]string{strings.Repeat("v", a), "", "+"}
	case api.OpCall:
		return [3]string{strings.Repeat("v", []int{1, 2}[truth(a <= api.CallBottleneck)]), []string{"i", "b", "v"}[truth(a <= api.CallBlock)+2*truth(a == api.CallRep)]}
	}
	return effects[op]
}

// state is the kinds on the stack, and how many rounds are open.
type state struct {
	stack  string
	rounds int
}

// layer draws code that is taken, whose ways part and come together.
type layer struct {
	next   func(int) int
	code   api.Code
	states []state       // with which the words are come to
	ahead  map[int]state // words that lead onward to where it is not known yet
}

// flow draws code of about so many words that halts somewhere.
func (l *layer) flow(many int) api.Code {
	for !slices.Contains(l.code.Words, word(api.OpHalt, 0, 0)) {
		l.begin(many)
	}
	c := l.code
	l.code = api.Code{}
	return c
}

func (l *layer) begin(many int) {
	l.code, l.states, l.ahead = api.Code{Consts: []int{0, 1, 2, 3, 4, 5, 6, 7, 8, 1 << 62}, Names: names, Cells: []int{1, 2, 3}}, nil, map[int]state{}
	now, is := state{}, true
	for len(l.code.Words) < many {
		if !is {
			if now, is = l.resume(); !is {
				break
			}
		}
		l.meet(now)
		now, is = l.lay(now)
	}
	for is {
		l.end(now)
		now, is = l.resume()
	}
}

// resume is a state with which the next word is to be come to from one ahead: the first of these.
func (l *layer) resume() (state, bool) {
	for at := range l.code.Words {
		if s, is := l.ahead[at]; is {
			return s, true
		}
	}
	return state{}, false
}

// meet makes words that lead onward with this state lead to the next word.
func (l *layer) meet(now state) {
	for at, s := range l.ahead {
		if s == now {
			l.lead(at, len(l.code.Words))
			delete(l.ahead, at)
		}
	}
}

func (l *layer) lead(at, to int) {
	op, a, b := fields(l.code.Words[at])
	if op == api.OpFetch {
		b = to
	} else {
		a = to
	}
	l.code.Words[at] = word(op, a, b)
}

// lay draws a word; what is answered is the state behind it, or false, if nothing goes on behind it.
func (l *layer) lay(now state) (state, bool) {
	for {
		op, a, b := l.word()
		does := effect(op, a, b)
		rest, is := strings.CutSuffix(now.stack, does[0])
		if !is || len(rest) > 6 && len(does[1]) > len(does[0]) || does[2] == "-" && now.rounds <= a*truth(op == api.OpVar) || does[2] == "+" && now.rounds == 4 {
			continue
		}
		behind := state{rest + does[1], now.rounds + truth(does[2] == "+") - truth(op == api.OpClose)}
		l.states, l.code.Words = append(l.states, now), append(l.code.Words, word(op, a, b))
		switch op {
		case api.OpJump, api.OpFalse, api.OpTrue:
			l.choose(behind)
		case api.OpNext:
			l.choose(state{behind.stack, behind.rounds - 1})
		case api.OpFetch:
			l.choose(state{behind.stack + string("ibv"[a]), behind.rounds})
		}
		return behind, op != api.OpJump
	}
}

// word draws an operation and its numbers; it does not halt.
func (l *layer) word() (op, a, b int) {
	op = 1 + l.next(27)
	switch op {
	case api.OpConst:
		b = 1 + l.next(2)
		a = []int{l.next(10), l.next(2)}[b-1]
	case api.OpVertex:
		a = 1 + l.next(5+3*truth(l.next(20) == 0))
	case api.OpVar, api.OpList:
		a = l.next(4)
	case api.OpNamed:
		a = l.next(3 + truth(l.next(20) == 0))
	case api.OpEq:
		b = 1 + l.next(3)
	case api.OpLess:
		b = l.next(2)
	case api.OpCall:
		a = 1 + l.next(10)
	case api.OpFetch, api.OpKeep, api.OpClear:
		a = l.next(3)
	case api.OpBest:
		a = l.next(2)
	}
	return op, a, b
}

// choose draws where the last word leads to: back to one that has its state, or onward.
func (l *layer) choose(led state) {
	at := len(l.code.Words) - 1
	var back []int
	for i, s := range l.states {
		if s == led {
			back = append(back, i)
		}
	}
	if len(back) > 0 && l.next(3) == 0 {
		l.lead(at, back[l.next(len(back))])
		return
	}
	l.ahead[at] = led
}

// put lays a word to whose place nobody leads back.
func (l *layer) put(op, a, b int) {
	l.states, l.code.Words = append(l.states, state{rounds: -1}), append(l.code.Words, word(op, a, b))
}

// drop lays words that take the top away, a number.
func (l *layer) drop() {
	l.put(api.OpConst, 0, api.KindInt)
	l.put(api.OpLess, 0, 0)
	l.put(api.OpFalse, len(l.code.Words)+1, 0)
}

// fetch lays words that push the number of the cell 0.
func (l *layer) fetch() {
	l.put(api.OpFetch, 0, len(l.code.Words)+2)
	l.put(api.OpConst, 0, api.KindInt)
}

// end lays words that close all rounds, and halt with a number that tells of all values on the stack.
func (l *layer) end(now state) {
	l.meet(now)
	for range now.rounds {
		l.put(api.OpClose, 0, 0)
	}
	l.put(api.OpConst, 0, api.KindInt)
	l.put(api.OpKeep, 0, 0)
	l.drop()
	for i := len(now.stack) - 1; i >= 0; i-- {
		switch now.stack[i] {
		case 'b':
			at := len(l.code.Words)
			l.put(api.OpTrue, at+3, 0)
			l.put(api.OpConst, 3, api.KindInt)
			l.put(api.OpJump, at+4, 0)
			l.put(api.OpConst, 5, api.KindInt)
		case 'v':
			l.put(api.OpCall, api.CallValue, 0)
		}
		l.fetch()
		l.put(api.OpSub, 0, 0)
		l.put(api.OpKeep, 0, 0)
		l.drop()
	}
	l.fetch()
	l.put(api.OpHalt, 0, 0)
}

// Code whose ways part and come together, in some graphs.
func TestFlow(t *testing.T) {
	graphs := drawnGraphs(t, 20)
	l := &layer{next: numbers()}
	seen := tally{}
	for i := range 4000 {
		c := l.flow(3 + i%80)
		seen.take(ran(t, c, graphs[l.next(len(graphs))], 300))
	}
	seen.want(t, 10, api.FaultOverflow, api.FaultZero)
	seen.want(t, 200, 0, api.FaultEmpty, api.FaultFuel, api.FaultSet, api.FaultVertex)
}
