package machine_test

import (
	"fmt"
	"math"
	"strings"
	"testing"

	"isthmus/api"
)

// edges are numbers about which 64 bits end, one way or another.
func edges() []int {
	var l []int
	for _, n := range []int{0, 1 << 32, 3037000499, 1 << 62, math.MaxInt, math.MinInt, -1 << 32, -3037000499, -1 << 62} {
		for d := -2; d <= 2; d++ {
			l = append(l, n+d)
		}
	}
	return append(l, 7, -7, 10, -10)
}

func TestNumbers(t *testing.T) {
	s := newStore(t)
	seen := map[int]int{}
	for _, a := range edges() {
		seen[ran(t, read(fmt.Sprintf("%d, Neg, Halt", a)), s, 9).answer.Fault]++
		for _, b := range edges() {
			for _, op := range []string{"Add", "Sub", "Mul", "Div", "Rem", "Eq 0 1", "Less", "Less 0 1"} {
				p := ran(t, read(fmt.Sprintf("%d, %d, %s, Halt", a, b, op)), s, 9)
				seen[p.answer.Fault]++
			}
		}
	}
	if len(seen) != 3 || seen[api.FaultZero] < 90 || seen[api.FaultOverflow] < 1000 {
		t.Errorf("%v", seen)
	}
	for text, want := range map[string]api.Answer{
		"-9223372036854775808, Neg": isFault(api.FaultOverflow), "9223372036854775807, Neg": isInt(-9223372036854775807), "0, Neg": isInt(0),
		"9223372036854775807, 1, Add": isFault(api.FaultOverflow), "-9223372036854775808, 1, Sub": isFault(api.FaultOverflow), "4294967296, 4294967296, Mul": isFault(api.FaultOverflow), "-1, -9223372036854775808, Mul": isFault(api.FaultOverflow),
		"7, 2, Sub": isInt(5), "2, 7, Sub": isInt(-5), "7, -2, Div": isInt(-3), "-7, 2, Rem": isInt(-1), "7, -2, Rem": isInt(1), "7, 0, Div": isFault(api.FaultZero), "7, 0, Rem": isFault(api.FaultZero), "0, 0, Rem": isFault(api.FaultZero),
		"-9223372036854775808, -1, Div": isFault(api.FaultOverflow), "-9223372036854775808, -1, Rem": isInt(0),
		"1, 2, Less": isBool(1), "2, 2, Less": isBool(0), "2, 2, Less 0 1": isBool(1), "3, 2, Less 0 1": isBool(0), "2, 1, Less": isBool(0), "1, 2, Less 0 1": isBool(1),
	} {
		wantAnswer(t, text+", Halt", s, want)
	}
}

func TestTruthsAndVertices(t *testing.T) {
	s := docGraph(t)
	for text, want := range map[string]api.Answer{
		"true, Not": isBool(0), "false, Not": isBool(1), "true, true, Eq 0 2": isBool(1), "true, false, Eq 0 2": isBool(0), "false, false, Eq 0 2": isBool(1), "@1, @1, Eq 0 3": isBool(1), "@1, @2, Eq 0 3": isBool(0),
		"@1": isVertex(1), "@5": isVertex(5), "@0": isFault(api.FaultVertex), "@6": isFault(api.FaultVertex), "@9223372036854775807": isFault(api.FaultVertex), "@1, @9, Eq 0 3": isFault(api.FaultVertex),
	} {
		wantAnswer(t, text+", Halt", s, want)
	}
	s.AddVertex(0, -5)
	s.AddVertex(1<<40, 7)
	wantAnswer(t, "@0, Halt", s, isVertex(0))
	wantAnswer(t, "@0, Call 8, Halt", s, isInt(-5))
	wantAnswer(t, "@1099511627776, Halt", s, isVertex(1<<40))
	wantAnswer(t, "@1099511627777, Halt", s, isFault(api.FaultVertex))
}

func TestLeading(t *testing.T) {
	s := newStore(t)
	for text, want := range map[string]int{
		"Jump 3, 1, Halt, 2, Halt": 2, "Jump 1, 1, Halt": 1, "true, False 4, 1, Halt, 2, Halt": 1, "false, False 4, 1, Halt, 2, Halt": 2, "true, True 4, 1, Halt, 2, Halt": 2, "false, True 4, 1, Halt, 2, Halt": 1,
		"false, True 2, 1, Halt": 1, "true, True 2, 1, Halt": 1, "Jump 3, 1, Halt, Jump 1": 1, "true, true, False 1, Not, True 7, 1, Halt, 2, Halt": 1, "7, true, False 6, 3, Sub, Halt, Neg, Halt": 4, "7, true, True 6, 3, Sub, Halt, Neg, Halt": -7,
	} {
		wantAnswer(t, text, s, isInt(want))
	}
}

func TestBest(t *testing.T) {
	s := newStore(t)
	for _, first := range edges() {
		for _, b := range edges() {
			for most, better := range []int{min(first, b), max(first, b)} {
				for is, want := range []int{b, better} {
					words := []string{fmt.Sprint(first), []string{"false", "true"}[is], fmt.Sprint(b), fmt.Sprint("Best ", most)}
					text := strings.Join(words, ", ")
					wantRan(t, read(text+", Some, Halt"), s, isInt(want), 6, 3)
					wantRan(t, read(text+", True 6, Neg, Halt"), s, isInt(want), 6, 3)
				}
			}
		}
	}
	wantRan(t, read("1, true, Some, Halt"), s, isInt(1), 4, 2)
	wantRan(t, read("1, false, Some, Halt"), s, isFault(api.FaultEmpty), 3, 2)
}

// A cell is empty at the beginning, then what was kept last, then empty again.
func TestCells(t *testing.T) {
	s := docGraph(t)
	for text, want := range map[string]api.Answer{
		"Fetch 0 3, 1, Jump 3, Halt":                                                       isInt(1),
		"7, Keep, Fetch 0 4, Halt, Sub, Halt":                                              isInt(0),
		"7, Keep, Neg, Fetch 0 5, Halt, Sub, Halt":                                         isInt(-14),
		"7, Keep, Clear, Fetch 0 5, Halt, Sub, Halt":                                       isInt(7),
		"7, Clear, Keep, Fetch 0 5, Halt, Sub, Halt":                                       isInt(0),
		"7, Keep, 8, Keep, Fetch 0 7, Sub, Halt, Sub, Sub, Halt":                           isInt(7),
		"7, Keep, 8, Keep, Clear, Fetch 0 8, Sub, Halt, Sub, Sub, Halt":                    isInt(-1),
		"true, Keep 1, Fetch 1 4, Halt, Eq 0 2, Halt":                                      isBool(1),
		"false, Keep 1, Not, Fetch 1 5, Halt, Eq 0 2, Halt":                                isBool(0),
		"@4, Keep 2, Call 10, Fetch 2 6, Call 8, Halt, Eq 0 3, False 10, 8, Halt, 9, Halt": isInt(9),
		"@4, Call 10, Keep 2, Fetch 2 6, Call 8, Halt, Eq 0 3, False 10, 8, Halt, 9, Halt": isInt(8),
		"@4, Keep 2, Clear 2, Fetch 2 6, Call 8, Halt, Eq 0 3, False 10, 8, Halt, 9, Halt": isInt(40),
		"@4, Keep 2, Clear 1, Fetch 2 6, Call 8, Halt, Eq 0 3, False 10, 8, Halt, 9, Halt": isInt(8),
		"0, Keep, Fetch 0 4, Halt, 5, Add, Add, Halt":                                      isInt(5),
		"false, Keep 1, Fetch 1 4, Halt, True 7, Not, Halt, Halt":                          isBool(1),
		"Fetch 0 2, 7, Keep, Fetch 0 5, 1, Add, 2, Mul, Halt":                              isInt(28),
		"Fetch 0 2, 7, Keep, Clear, Fetch 0 6, 1, Add, 2, Mul, Halt":                       isInt(16),
		"1, Keep, Fetch 0 6, 5, Add, Halt, Add, 1, Add, Halt":                              isInt(3),
		"Jump 2, Halt, 3, Keep, Fetch 0 6, Jump 1, Add, Jump 1":                            isInt(6),
	} {
		wantAnswer(t, text, s, want)
	}
}

// Of cells of one kind each keeps what is its own.
func TestCellsApart(t *testing.T) {
	s := newStore(t)
	c := api.Code{Consts: []int{0}}
	for i := range 256 {
		c.Cells = append(c.Cells, api.KindInt)
		c.Consts = append(c.Consts, 1<<(i%50)+i)
		c.Words = append(c.Words, word(api.OpConst, i+1, api.KindInt), word(api.OpKeep, i, 0), word(api.OpSub, 0, 0))
	}
	c.Words = append([]uint64{word(api.OpConst, 0, api.KindInt)}, c.Words...)
	want := 0
	for i := range 256 {
		at := len(c.Words)
		c.Words = append(c.Words, word(api.OpFetch, 255-i, at+2), word(api.OpConst, 0, api.KindInt), word(api.OpSub, 0, 0))
		want -= 2 * c.Consts[i+1]
		if i%3 == 0 {
			c.Words = append(c.Words, word(api.OpClear, 255-i, 0), word(api.OpFetch, 255-i, at+6), word(api.OpConst, 0, api.KindInt), word(api.OpSub, 0, 0))
		}
	}
	c.Words = append(c.Words, 0)
	if p := ran(t, c, s, 5000); p.answer != isInt(want) {
		t.Errorf("%v, wanted %d", p.answer, want)
	}
}

// Each call of all vertices, two by two, in some graphs.
func TestCalls(t *testing.T) {
	seen := map[int]int{}
	for _, s := range drawnGraphs(t, 12) {
		for which := 1; which <= 10; which++ {
			for u := range 9 {
				for v := range 9 {
					text := fmt.Sprintf("@%d, @%d, Call %d, Halt", u, v, which)
					if which > 3 {
						text = fmt.Sprintf("@%d, Call %d, Halt", u, which)
					}
					seen[ran(t, read(text), s, 9).answer.Fault]++
				}
			}
		}
	}
	if len(seen) != 3 || seen[0] < 3000 || seen[api.FaultVertex] < 1000 || seen[api.FaultEmpty] < 300 {
		t.Errorf("%v", seen)
	}
	s := docGraph(t)
	for text, want := range map[string]api.Answer{
		"@1, @4, Call 1": isBool(1), "@1, @5, Call 1": isBool(0), "@1, @3, Call 2": isBool(1), "@3, @4, Call 2": isBool(0), "@1, @3, Call 3": isInt(7), "@1, @5, Call 3": isFault(api.FaultEmpty), "@1, @1, Call 3": isFault(api.FaultEmpty),
		"@2, Call 4": isInt(4), "@2, Call 5": isInt(100), "@2, Call 6": isInt(10), "@2, Call 7": isInt(40), "@5, Call 8": isInt(50), "@3, Call 9": isInt(3), "@4, Call 10": isVertex(1), "@5, Call 10": isVertex(5),
	} {
		wantAnswer(t, text+", Halt", s, want)
	}
}

// Calls of vertices that are not there any more, or never were: a round is at the vertex 0 ahead of its first.
func TestCallsOfNone(t *testing.T) {
	for which := 1; which <= 10; which++ {
		for gone := 1; gone <= 3; gone++ {
			s := newStore(t)
			s.AddVertex(1, 10)
			s.AddVertex(2, 20)
			text, steps := fmt.Sprintf("@1, @2, Call %d, Halt", which), 2
			if which > 3 {
				text, steps = fmt.Sprintf("@%d, Call %d, Halt", 1+gone%2, which), 1
			}
			m := begun(t, read(text), s)
			if m.Step(steps) {
				t.Errorf("%s: %v", text, m.Answer())
			}
			for id := 1; id <= 2; id++ {
				if gone&id > 0 || which > 3 {
					s.DropVertex(id)
				}
			}
			if !m.Step(1) || m.Answer() != isFault(api.FaultVertex) || m.Steps() != steps+1 || m.Depth() != steps {
				t.Errorf("%s: %v %d %d", text, m.Answer(), m.Steps(), m.Depth())
			}
		}
		s := docGraph(t)
		text := fmt.Sprintf("All, Var 0, Call %d, Close, Halt", which)
		if which <= 3 {
			text = fmt.Sprintf("All, Var 0, @1, Call %d, Close, Halt", which)
			wantAnswer(t, fmt.Sprintf("All, @1, Var 0, Call %d, Close, Halt", which), s, isFault(api.FaultVertex))
			wantAnswer(t, fmt.Sprintf("All, Var 0, Var 0, Call %d, Close, Halt", which), s, isFault(api.FaultVertex))
		}
		wantAnswer(t, text, s, isFault(api.FaultVertex))
		s.AddVertex(0, 7)
		if p := ran(t, read(text), s, 9); p.answer.Fault != 0 && which != 3 {
			t.Errorf("%s: %v", text, p.answer)
		}
	}
}
