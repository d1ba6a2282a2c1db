package emit_test

import (
	"fmt"
	"strings"

	"isthmus/api"
)

// state is chapter 20's: the kinds of the values on the stack, a letter each, and the rounds that are open.
type state struct {
	stack  string
	rounds int
}

const letters = "-ibv" // of kinds

// effects are what operations pop and push; of those that have no such row here effectOf tells.
var effects = map[string][2]string{
	"OpVertex": {"", "v"}, "OpVar": {"", "v"}, "OpNeg": {"i", "i"}, "OpNot": {"b", "b"}, "OpAdd": {"ii", "i"}, "OpSub": {"ii", "i"}, "OpMul": {"ii", "i"}, "OpDiv": {"ii", "i"}, "OpRem": {"ii", "i"}, "OpLess": {"ii", "b"},
	"OpFalse": {"b", ""}, "OpTrue": {"b", ""}, "OpAround": {"v", ""}, "OpBest": {"ibi", "ib"}, "OpSome": {"b", ""},
}

func effectOf(op string, a, b int, cells []int) (pops, pushes string) {
	switch op {
	case "OpConst":
		return "", letters[b : b+1]
	case "OpEq":
		return strings.Repeat(letters[b:b+1], 2), "b"
	case "OpCall":
		return []string{"", "vv", "vv", "vv", "v", "v", "v", "v", "v", "v", "v"}[a], []string{"", "b", "b", "i", "i", "i", "i", "i", "i", "i", "v"}[a]
	case "OpKeep":
		kind := letters[cells[a] : cells[a]+1]
		return kind, kind
	case "OpList":
		return strings.Repeat("v", a), ""
	}
	return effects[op][0], effects[op][1]
}

// guard looks over right code as chapter 20 says, but for the room on the stack.
type guard struct {
	code   api.Code
	came   []*state
	looked []bool
	next   int // no lesser word that was come to is to be looked at
	limits api.Limits
}

// lookOver is what code needs; or what is wrong with it.
func lookOver(c api.Code) (api.Limits, error) {
	g := &guard{code: c, came: make([]*state, len(c.Words)), looked: make([]bool, len(c.Words))}
	if err := g.come(0, state{}); err != nil {
		return api.Limits{}, err
	}
	for ; g.next < len(c.Words); g.next++ {
		word := g.next
		if g.came[word] == nil || g.looked[word] {
			continue
		}
		g.looked[word] = true
		if err := g.look(word); err != nil {
			return api.Limits{}, fmt.Errorf("the word %d: %w", word, err)
		}
	}
	if g.limits.Kind == 0 {
		return api.Limits{}, fmt.Errorf("it does not halt")
	}
	return g.limits, nil
}

// come tells that a word is come to with a state.
func (g *guard) come(word int, s state) error {
	if word >= len(g.came) {
		return fmt.Errorf("there is no word %d", word)
	}
	if was := g.came[word]; was != nil && *was != s {
		return fmt.Errorf("to the word %d with %v and with %v", word, *was, s)
	}
	g.came[word] = &s
	g.limits.Stack, g.limits.Rounds = max(g.limits.Stack, len(s.stack)), max(g.limits.Rounds, s.rounds)
	if !g.looked[word] && word < g.next {
		g.next = word - 1
	}
	return nil
}

func (g *guard) look(word int) error {
	number, a, b := fields(g.code.Words[word])
	op, s := operations[number], *g.came[word]
	if op == "OpHalt" {
		return g.halt(s)
	}
	pops, pushes := effectOf(op, a, b, g.code.Cells)
	rest, is := strings.CutSuffix(s.stack, pops)
	if !is {
		return fmt.Errorf("%s with %v", op, s)
	}
	after := state{rest + pushes, s.rounds}
	switch op {
	case "OpAll", "OpNamed", "OpAround", "OpList":
		after.rounds++
	case "OpClose":
		after.rounds--
	}
	if after.rounds < 0 || after.rounds > 4 || op == "OpVar" && a >= s.rounds || op == "OpNext" && s.rounds == 0 {
		return fmt.Errorf("%s %d with %v", op, a, s)
	}
	if op != "OpJump" {
		if err := g.come(word+1, after); err != nil {
			return err
		}
	}
	return g.lead(op, a, b, after)
}

// lead comes to the word to which one leads.
func (g *guard) lead(op string, a, b int, s state) error {
	switch op {
	case "OpJump", "OpFalse", "OpTrue":
		return g.come(a, s)
	case "OpNext":
		return g.come(a, state{s.stack, s.rounds - 1})
	case "OpFetch":
		return g.come(b, state{s.stack + letters[g.code.Cells[a]:g.code.Cells[a]+1], s.rounds})
	}
	return nil
}

func (g *guard) halt(s state) error {
	if len(s.stack) != 1 || s.rounds != 0 {
		return fmt.Errorf("it halts with %v", s)
	}
	kind := strings.Index(letters, s.stack)
	if g.limits.Kind != 0 && g.limits.Kind != kind {
		return fmt.Errorf("it halts with kinds %d and %d", g.limits.Kind, kind)
	}
	g.limits.Kind = kind
	return nil
}
