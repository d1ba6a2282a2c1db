package guard_test

import (
	"fmt"
	"math"
	"slices"
	"strings"
	"testing"

	"isthmus/api"
)

func TestV1Examples(t *testing.T) {
	wantTaken(t, api.Code{Words: []uint64{word(api.OpConst, 0, 1), word(api.OpConst, 1, 1), word(api.OpAdd, 0, 0), 0}, Consts: []int{1, 2}}, 2, 0, api.KindInt)
	wantTaken(t, read("Named, i, Next 10, Var, v, Eq 0 3, False 2, i, Add, Jump 2, Halt"), 3, 1, api.KindInt)
	wantTaken(t, read("b, False 4, b, Jump 5, b, Halt"), 1, 0, api.KindBool)
	wantRefused(t, read("Add, Halt"), api.ErrGuardStack, 0)
	wantRefused(t, read("i"), api.ErrGuardJump, 0)
	wantRefused(t, read("Jump 0"), api.ErrGuardStack, 0)
	wantRefused(t, read("Var 0, Halt"), api.ErrGuardStack, 0)
	wantRefused(t, read("i, Jump 0"), api.ErrGuardMeet, 1)
}

// Code that is not right has no word that is looked at.
func TestV1Form(t *testing.T) {
	right := read("i, Halt").Words
	for _, c := range []api.Code{
		{}, {Words: []uint64{}, Consts: []int{7}}, {Words: right}, {Words: []uint64{word(28, 0, 0)}}, {Words: []uint64{math.MaxUint64}}, with(word(api.OpAdd, 0, 0), word(api.OpHalt, 0, 1)), with(word(api.OpAdd, 1, 0)),
		with(right[0], 0, word(api.OpVar, 4, 0)), with(word(api.OpConst, 0, 3), 0), with(word(api.OpConst, 3, 1), 0), with(word(api.OpCall, 0, 0)), with(word(api.OpCall, 11, 0)), with(word(api.OpList, 1025, 0)), with(word(api.OpKeep, 3, 0)), with(word(api.OpFetch, 3, 0)), with(word(api.OpNamed, 1, 0)),
		{Words: right, Consts: []int{1, 2, 3}, Names: []string{"in"}}, {Words: right, Consts: []int{1, 2, 3}, Cells: []int{4}}, {Words: right, Consts: []int{1, 2, 3}, Cells: make([]int, 1)}, {Words: right, Consts: []int{1, 2, 3}, Cells: slices.Repeat([]int{1}, 257)},
		with(slices.Repeat(right, 16385)...),
	} {
		wantRefused(t, c, api.ErrCodeForm, 0)
	}
	wantTaken(t, api.Code{Words: right, Consts: []int{1, 2, 3}}, 1, 0, api.KindInt)
	wantTaken(t, api.Code{Words: right, Consts: []int{1, 2, 3}, Names: []string{"in_"}, Cells: slices.Repeat([]int{3}, 256)}, 1, 0, api.KindInt)
}

// doing are words with what they pop and push; `+` and `-` stand for a round that is opened or closed, `1` for one that must be open.
var doing = []struct{ word, pops, pushes, rounds string }{
	{"Const 2 1", "", "i", ""}, {"Const 1 2", "", "b", ""}, {"Vertex 2", "", "v", ""}, {"Var", "", "v", "1"},
	{"Neg", "i", "i", ""}, {"Not", "b", "b", ""}, {"Add", "ii", "i", ""}, {"Sub", "ii", "i", ""}, {"Mul", "ii", "i", ""}, {"Div", "ii", "i", ""}, {"Rem", "ii", "i", ""},
	{"Eq 0 1", "ii", "b", ""}, {"Eq 0 2", "bb", "b", ""}, {"Eq 0 3", "vv", "b", ""}, {"Less", "ii", "b", ""}, {"Less 0 1", "ii", "b", ""},
	{"False", "b", "", ""}, {"True", "b", "", ""}, {"Some", "b", "", ""}, {"Clear", "", "", ""}, {"Clear 2", "", "", ""},
	{"Call 1", "vv", "b", ""}, {"Call 2", "vv", "b", ""}, {"Call 3", "vv", "i", ""}, {"Call 4", "v", "i", ""}, {"Call 5", "v", "i", ""}, {"Call 6", "v", "i", ""}, {"Call 7", "v", "i", ""}, {"Call 8", "v", "i", ""}, {"Call 9", "v", "i", ""}, {"Call 10", "v", "v", ""},
	{"Keep", "i", "i", ""}, {"Keep 1", "b", "b", ""}, {"Keep 2", "v", "v", ""}, {"Best", "ibi", "ib", ""}, {"Best 1", "ibi", "ib", ""},
	{"All", "", "", "+"}, {"Named", "", "", "+"}, {"Around", "v", "", "+"}, {"List", "", "", "+"}, {"List 1", "v", "", "+"}, {"List 2", "vv", "", "+"}, {"List 5", "vvvvv", "", "+"}, {"Close", "", "", "-"},
}

// pushing are words that push these kinds.
func pushing(stack string) []string { return strings.Split(stack, "") }

// ending are words behind which a code halts: of what is on the stack only the lowest stays.
func ending(stack string, rounds int) []string {
	var words []string
	for i := len(stack) - 1; i > 0; i-- {
		switch stack[i] {
		case 'i':
			words = append(words, "i", "Eq 0 1")
		case 'v':
			words = append(words, "Call 4", "i", "Eq 0 1")
		}
		words = append(words, "Some")
	}
	return append(append(words, slices.Repeat([]string{"Close"}, rounds)...), "Halt")
}

// joined is code of words; those that lead on do so to the one behind them, or to where it is told.
func joined(words ...string) api.Code {
	var kept []string
	for _, w := range words {
		if w == "" {
			continue
		}
		if w == "False" || w == "True" {
			w = fmt.Sprint(w, " ", len(kept)+1)
		}
		kept = append(kept, w)
	}
	return read(strings.Join(kept, ", "))
}

// Each row of the chapter's table, written out by hand, below other values, and in rounds.
func TestV1EachWord(t *testing.T) {
	for _, x := range doing {
		for _, below := range []string{"", "i", "b", "v", "ib", "vbi", strings.Repeat("iv", 20)} {
			for open := range 5 {
				rounds := open
				switch x.rounds {
				case "+":
					rounds++
				case "-":
					rounds--
				}
				opened := slices.Repeat([]string{"All"}, open)
				words := slices.Concat(opened, pushing(below+x.pops), []string{x.word})
				at := open + len(below+x.pops)
				if rounds < 0 || rounds > 4 || x.rounds == "1" && open == 0 {
					wantRefused(t, joined(words...), api.ErrGuardStack, at)
					wantRefused(t, joined(append(words, "Halt")...), api.ErrGuardStack, at)
					continue
				}
				wantRefused(t, joined(words...), api.ErrGuardJump, at)
				if stack := below + x.pushes; stack != "" {
					c := joined(append(words, ending(stack, rounds)...)...)
					limits, e, _ := verified(t, c)
					if e != api.OK || limits.Rounds != max(open, rounds) || limits.Kind != strings.Index(letters, stack[:1]) || limits.Stack < max(len(stack), len(below+x.pops)) || limits.Stack > max(len(stack)+1, len(below+x.pops)) {
						t.Errorf("%d, %v of %s", e, limits, written(c))
					}
				}
			}
		}
	}
}

// Each word that pops, with one value too few, with none, and with each value of another kind.
func TestV1EachPop(t *testing.T) {
	for _, x := range doing {
		for i := range len(x.pops) {
			wantRefused(t, joined(append(pushing(x.pops[i+1:]), x.word, "Halt")...), api.ErrGuardStack, len(x.pops)-i-1)
			for _, other := range letters[1:] {
				if byte(other) == x.pops[i] {
					continue
				}
				want := api.ErrGuardStack
				if strings.HasPrefix(x.word, "Keep") {
					want = api.ErrGuardCell
				}
				stack := x.pops[:i] + string(other) + x.pops[i+1:]
				wantRefused(t, joined(append(pushing(stack), x.word, "Halt")...), want, len(stack))
				wantRefused(t, joined(append(pushing(stack), x.word)...), want, len(stack))
				wantRefused(t, joined(append(pushing("ibv"+stack), x.word, "Halt")...), want, 3+len(stack))
			}
		}
	}
	wantRefused(t, read("Keep, Halt"), api.ErrGuardStack, 0) // there is nothing: that is no other kind
	wantRefused(t, read("Keep 1"), api.ErrGuardStack, 0)
	wantRefused(t, read("i, i, b, Best"), api.ErrGuardStack, 3) // the top is on the right
	wantRefused(t, read("b, i, i, Best"), api.ErrGuardStack, 3)
}

func TestV1Halt(t *testing.T) {
	wantRefused(t, read("Halt"), api.ErrGuardStack, 0)
	wantRefused(t, read("i, i, Halt"), api.ErrGuardStack, 2)
	wantRefused(t, read("i, All, Halt"), api.ErrGuardStack, 2)
	wantRefused(t, read("All, Halt"), api.ErrGuardStack, 1)
	wantRefused(t, read("All, i, i, Halt"), api.ErrGuardStack, 3)
	for kind, one := range []string{"", "i", "b", "v"} {
		if kind > 0 {
			wantTaken(t, read(one+", Halt"), 1, 0, kind)
			wantTaken(t, read(one+", Halt, Halt, Add, Jump 9, Var 3"), 1, 0, kind) // what is not come to is not looked at
		}
	}
	wantTaken(t, read("b, False 4, i, Halt, i, Halt"), 1, 0, api.KindInt)
	wantTaken(t, read("b, False 4, i, Jump 5, i, Halt"), 1, 0, api.KindInt)
	wantRefused(t, read("b, False 4, i, Halt, b, Halt"), api.ErrGuardMeet, 5)
	wantRefused(t, read("b, True 4, v, Halt, i, Halt"), api.ErrGuardMeet, 5)
	wantRefused(t, read("b, True 5, v, Halt, Add, i, i, Halt"), api.ErrGuardStack, 7)            // the stack is asked first
	wantRefused(t, read("b, True 4, v, Halt, All, i, Halt"), api.ErrGuardStack, 6)               // and the rounds
	wantRefused(t, read("b, True 6, b, True 8, v, Halt, v, Halt, b, Halt"), api.ErrGuardMeet, 9) // the third one
	wantRefused(t, read("Jump 3, v, Halt, b, True 1, i, Halt"), api.ErrGuardMeet, 6)             // ahead is who was looked at ahead: 2, then 6
	wantRefused(t, read("Jump 4, i, Halt, Add, b, True 1, Jump 8, Add, v, Halt"), api.ErrGuardMeet, 9)
}

// If nothing is wrong and nothing halts, it is the stack of word 0.
func TestV1NoHalt(t *testing.T) {
	for _, text := range []string{
		"Jump 0", "Clear, Jump 0", "i, i, Add, Jump 3", "b, False 0, Jump 0", "b, True 0, Jump 0, Halt", "All, Next 0, Jump 1", "Jump 2, Halt, Clear, Jump 2", "All, All, Next 5, Close, Jump 5, Next 0, Jump 5", "i, All, Jump 2, Halt",
	} {
		wantRefused(t, read(text), api.ErrGuardStack, 0)
	}
}

func TestV1Jump(t *testing.T) {
	for _, far := range []int{6, 7, 64, 1024, 32767, 32768, 1<<28 - 1} {
		for _, x := range []struct {
			text string
			at   int
		}{
			{"Jump %d, i, Halt, i, i, i", 0}, {"b, False %d, i, Halt, i, i", 1}, {"b, True %d, i, Halt, i, i", 1}, {"Fetch 0 %d, i, Halt, i, i, i", 0}, {"All, Next %d, Close, i, Halt, i", 1}, {"All, Next %d, Jump 1, i, Halt, i", 1},
		} {
			wantRefused(t, read(fmt.Sprintf(x.text, far)), api.ErrGuardJump, x.at)
		}
	}
	for _, last := range []string{"i", "b", "v", "Clear", "All", "Named", "List", "Jump 1", "Fetch 0 0", "Fetch 0 9"} {
		wantRefused(t, read(last), api.ErrGuardJump, 0)
	}
	wantRefused(t, read("Jump 3, i, Halt, b, False 1"), api.ErrGuardJump, 4) // the one behind it is not there
	wantRefused(t, read("Jump 3, i, Halt, b, False 0"), api.ErrGuardJump, 4)
	wantRefused(t, read("Jump 3, i, Halt, i, i, Jump 6"), api.ErrGuardJump, 5)
	wantTaken(t, read("Jump 3, i, Halt, Jump 1, Jump 9"), 1, 0, api.KindInt) // nobody comes to the last one
}

// Of all words that were come to the least one is looked at, wherever the others lead.
func TestV1LeastFirst(t *testing.T) {
	wantRefused(t, read("b, True 3, Add, Sub"), api.ErrGuardStack, 2)
	wantRefused(t, read("Jump 3, Add, Halt, b, True 1, Sub, Halt"), api.ErrGuardStack, 1)
	wantRefused(t, read("Jump 4, Var, Close, Halt, b, True 2, b, True 1, i, Halt"), api.ErrGuardStack, 2)
	wantRefused(t, read("Jump 4, Halt, Clear, Jump 5, Jump 6, Jump 1, b, True 2, Jump 5"), api.ErrGuardStack, 1)
	wantRefused(t, read("Jump 3, i, i, b, True 1, b, i, Halt"), api.ErrGuardMeet, 2)                 // 1 and 2 are looked at ahead of 5
	wantRefused(t, read("Jump 5, Fetch 0 9, b, Not, Halt, b, True 1, i, Halt"), api.ErrGuardJump, 1) // and 1 ahead of 7
	wantRefused(t, read("b, True 4, Neg, Halt, Not, Halt"), api.ErrGuardStack, 2)
	wantRefused(t, read("b, True 5, b, True 7, Jump 8, i, Jump 9, Neg, Clear, Halt"), api.ErrGuardStack, 7)
	wantRefused(t, read("b, True 5, b, True 7, Jump 8, i, Jump 9, Clear, Clear, Halt"), api.ErrGuardMeet, 8)
}

// The word behind is come to first, and then the one to which it leads; and that there is such a word is asked of each ahead of its state.
func TestV1Order(t *testing.T) {
	wantRefused(t, read("i, b, False 0"), api.ErrGuardJump, 2)
	wantRefused(t, read("b, True 4, i, Fetch 0 9, i, Halt"), api.ErrGuardMeet, 3)
	wantRefused(t, read("b, True 3, i, Fetch 0 9"), api.ErrGuardMeet, 2)
	wantRefused(t, read("All, Next 9"), api.ErrGuardJump, 1)
	wantRefused(t, read("All, Next 1"), api.ErrGuardJump, 1)
	wantRefused(t, read("All, Next 1, i, Halt"), api.ErrGuardMeet, 1)
	wantRefused(t, read("i, False 9"), api.ErrGuardStack, 1)
	wantRefused(t, read("Next 9"), api.ErrGuardStack, 0)
	wantRefused(t, read("Close"), api.ErrGuardStack, 0)
}

// Two ways to one word: the stacks must be alike, and the rounds.
func TestV1Meet(t *testing.T) {
	wantRefused(t, read("b, False 4, i, Jump 5, b, Halt"), api.ErrGuardMeet, 4)
	wantRefused(t, read("b, False 4, i, Jump 6, i, i, Halt"), api.ErrGuardMeet, 5)
	wantRefused(t, read("b, False 4, All, Jump 5, Clear, i, Halt"), api.ErrGuardMeet, 4)
	wantTaken(t, read("b, False 4, All, Jump 5, List, Next 7, Jump 5, i, Halt"), 1, 1, api.KindInt) // over what a round goes is not told
	wantRefused(t, read("b, i, Fetch 1 5, Jump 6, Halt, Not, Halt"), api.ErrGuardMeet, 5)
	wantRefused(t, read("Fetch 0 1, i, Halt"), api.ErrGuardMeet, 0)
	wantRefused(t, read("Fetch 0 0, i, Halt"), api.ErrGuardMeet, 0)
	wantRefused(t, read("Fetch 1 3, i, Keep, Halt"), api.ErrGuardMeet, 2)
	wantTaken(t, read("Fetch 0 3, i, Keep, Halt"), 1, 0, api.KindInt)
	wantTaken(t, read("Fetch 2 3, v, Keep 2, Halt"), 1, 0, api.KindVertex)
	wantRefused(t, read("All, Next 2, i, Halt"), api.ErrGuardMeet, 1)
	wantTaken(t, read("b, b, True 1, Halt"), 2, 0, api.KindBool)
	for _, x := range [][2]string{{"i", "b"}, {"b", "v"}, {"v", "i"}, {"ii", "ib"}, {"ii", "bi"}, {"vbi", "vbb"}, {"vbi", "bbi"}, {"vbi", "vvi"}, {"ib", "bi"}, {"i", "ii"}, {"v", "vv"}, {"b", ""}, {"", "v"}, {"ivb", "iv"}, {"ivb", "vb"}} {
		first, second := len(x[0]), len(x[1])
		words := slices.Concat([]string{"b", fmt.Sprint("False ", 3+first)}, strings.Split(x[0], ""), []string{fmt.Sprint("Jump ", 3+first+second)}, strings.Split(x[1], ""), []string{"Jump 0"})
		meets := 2 + first // where the second one to come to the word is; it is the first half's, if the second has no words
		if second > 0 {
			meets += second
		}
		wantRefused(t, joined(words...), api.ErrGuardMeet, meets)
	}
}

// What leads back, to itself or to the next word.
func TestV1Loops(t *testing.T) {
	wantTaken(t, read("b, False 2, i, Halt"), 1, 0, api.KindInt)
	wantTaken(t, read("b, True 0, i, Halt"), 1, 0, api.KindInt)
	wantTaken(t, read("Jump 1, i, Halt"), 1, 0, api.KindInt)
	wantTaken(t, read("b, False 3, Jump 2, v, Halt"), 1, 0, api.KindVertex)
	wantRefused(t, read("b, False 1, i, Halt"), api.ErrGuardMeet, 1)
	wantTaken(t, read("All, Next 3, Jump 1, i, Halt"), 1, 1, api.KindInt)
	wantTaken(t, read("All, Jump 4, i, Halt, Next 2, Jump 4"), 1, 1, api.KindInt)
	wantTaken(t, read("All, Next 0, Close, i, Halt"), 1, 1, api.KindInt)
	wantRefused(t, read("All, Jump 0, i, Halt"), api.ErrGuardMeet, 1)
	wantRefused(t, read("All, Next 4, Close, Jump 1, i, Halt"), api.ErrGuardMeet, 3)
	wantRefused(t, read("All, i, Next 1, Close, Halt"), api.ErrGuardMeet, 2)
	wantRefused(t, read("i, Keep, Jump 0"), api.ErrGuardMeet, 2)
}

// What is told of code that is taken: the most that there is anywhere.
func TestV1Limits(t *testing.T) {
	wantTaken(t, read("i, Fetch 0 4, Jump 5, Halt, Add, Halt"), 2, 0, api.KindInt)
	wantTaken(t, read("b, False 8, v, v, v, List 3, Close, Jump 8, i, Halt"), 3, 1, api.KindInt)
	wantTaken(t, read("b, False 10, All, All, All, All, Close, Close, Close, Close, b, Halt"), 1, 4, api.KindBool)
	wantTaken(t, read("i, i, i, Add, Add, Halt"), 3, 0, api.KindInt)
	wantTaken(t, read("i, i, Add, i, Add, Halt"), 2, 0, api.KindInt)
	wantTaken(t, read("All, Next 9, Var, Around, Next 1, Var 1, Call 4, i, Jump 11, v, Halt, Eq 0 1, False 4, Close, Jump 1"), 2, 2, api.KindVertex)
	wantTaken(t, read("v, Halt, All, All, i, i, Halt"), 1, 0, api.KindVertex)
	for open := range 5 {
		for variable := range 4 {
			words := slices.Concat(slices.Repeat([]string{"All"}, open), []string{fmt.Sprint("Var ", variable)}, slices.Repeat([]string{"Close"}, open), []string{"Halt"})
			if variable < open {
				wantTaken(t, joined(words...), 1, open, api.KindVertex)
			} else {
				wantRefused(t, joined(words...), api.ErrGuardStack, open)
			}
		}
	}
	for _, opens := range []string{"All", "Named", "List", "Around", "List 1"} {
		given := map[string]string{"Around": "v", "List 1": "v"}[opens]
		wantTaken(t, joined("All", "All", "All", given, opens, "Close", "Close", "Close", "Close", "i", "Halt"), 1, 4, api.KindInt)
		wantRefused(t, joined("All", "All", "All", "All", given, opens, "Close", "Close", "Close", "Close", "Close", "i", "Halt"), api.ErrGuardStack, 4+len(given))
	}
}
