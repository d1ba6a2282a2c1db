package engine_test

import (
	"fmt"
	"slices"
	"strings"

	"isthmus/api"
)

// names are those of sets in tests; of the last one there is never a set.
var names = []string{"few", "many", "even", "nobody"}

func truth(is bool) int {
	if is {
		return 1
	}
	return 0
}

// numbers draws: a row of numbers that is the same each time.
func numbers() func(below int) int {
	x := uint64(88172645463325252)
	return func(below int) int {
		x ^= x << 13
		x ^= x >> 7
		x ^= x << 17
		return int(x >> 11 % uint64(below))
	}
}

// scope is where a part stands that is drawn: which names are bound there, how many quantifiers are open, and whether there may be another one.
type scope struct {
	bound  []string
	open   int
	closed bool
}

// piece is a call that was drawn.
type piece struct {
	kind int
	text string
	in   scope
}

// again asks whether a call may stand once more where another scope is.
func (p piece) again(kind int, in scope) bool {
	rounds := strings.Count(p.text, " in ")
	for _, name := range p.in.bound {
		if !slices.Contains(in.bound, name) {
			return false
		}
	}
	return p.kind == kind && in.open+rounds <= 4 && (rounds == 0 || !in.closed)
}

// asker draws texts of queries that are typed.
type asker struct {
	next  func(int) int
	plain bool // no quantifier stands in a call
	had   *[]piece
}

func (a asker) one(of ...string) string { return of[a.next(len(of))] }

// query draws one of a kind.
func (a asker) query(kind, deep int) string {
	a.had = &[]piece{}
	return a.of(kind, deep, scope{})
}

func (a asker) of(kind, deep int, in scope) string {
	if deep <= 0 || a.next(10) == 0 {
		return a.leaf(kind, in)
	}
	kid := func(kind int) string { return a.of(kind, deep-1-a.next(2), in) }
	switch which := a.next(10); {
	case which == 0:
		return fmt.Sprintf("(if %s then %s else %s)", kid(api.KindBool), kid(kind), kid(kind))
	case which <= 4 && kind != api.KindVertex && in.open < 4 && !in.closed:
		return a.quantifier(kind, deep, in)
	case which <= 6 || kind == api.KindVertex:
		return a.called(kind, deep, in)
	}
	return a.operator(kind, kid)
}

func (a asker) leaf(kind int, in scope) string {
	if kind != api.KindVertex && a.next(2) == 0 {
		return a.called(kind, 0, in)
	}
	switch kind {
	case api.KindInt:
		return a.one("0", "1", "2", "3", "10", "9223372036854775807")
	case api.KindBool:
		return a.one("true", "false")
	}
	if len(in.bound) > 0 && a.next(3) > 0 {
		return a.one(in.bound...)
	}
	return fmt.Sprintf("@%d", []int{1 + a.next(5), a.next(9)}[truth(a.next(15) == 0)])
}

// called draws a call; often it is one that was drawn ahead.
func (a asker) called(kind, deep int, in scope) string {
	for range min(len(*a.had), 3) {
		if p := (*a.had)[a.next(len(*a.had))]; p.again(kind, in) {
			return p.text
		}
	}
	closed := in
	closed.closed = in.closed || a.plain
	text := a.call(kind, func() string { return a.of(api.KindVertex, deep-1-a.next(2), closed) })
	*a.had = append(*a.had, piece{kind, text, in})
	return text
}

func (a asker) call(kind int, vertex func() string) string {
	switch {
	case kind == api.KindVertex:
		return fmt.Sprintf("rep(%s)", vertex())
	case kind == api.KindBool:
		return fmt.Sprintf("%s(%s, %s)", a.one("connected", "connected", "block"), vertex(), vertex())
	case a.next(8) == 0:
		return fmt.Sprintf("bottleneck(%s, %s)", vertex(), vertex())
	}
	return fmt.Sprintf("%s(%s)", a.one("size", "total", "least", "most", "value", "degree"), vertex())
}

func (a asker) operator(kind int, kid func(int) string) string {
	if kind == api.KindInt {
		if a.next(6) == 0 {
			return "-" + kid(kind)
		}
		return fmt.Sprintf("(%s %s %s)", kid(kind), a.one("+", "+", "-", "*", "/", "%"), kid(kind))
	}
	switch a.next(4) {
	case 0:
		return fmt.Sprintf("(not %s)", kid(kind))
	case 1:
		of := 1 + a.next(3)
		return fmt.Sprintf("(%s %s %s)", kid(of), a.one("=", "!="), kid(of))
	case 2:
		return fmt.Sprintf("(%s %s %s)", kid(api.KindInt), a.one("<", "<="), kid(api.KindInt))
	}
	return fmt.Sprintf("(%s %s %s)", kid(kind), a.one("and", "or"), kid(kind))
}

// quantifier draws one, whose variable may be called as one around it, or as a set.
func (a asker) quantifier(kind, deep int, in scope) string {
	which, of := a.one("all", "some"), api.KindBool
	if kind == api.KindInt {
		which = a.one("count", "sum", "min", "max")
		if which != "count" {
			of = api.KindInt
		}
	}
	in.open++
	set := a.set(deep, in)
	name := a.one("a", "b", "c", "few")
	in.bound = append(in.bound[:len(in.bound):len(in.bound)], name)
	return fmt.Sprintf("(%s %s in %s: %s)", which, name, set, a.of(of, deep-1-a.next(2), in))
}

func (a asker) set(deep int, in scope) string {
	switch a.next(20) {
	case 0, 1, 2:
		return fmt.Sprintf("around(%s)", a.of(api.KindVertex, deep-1, in))
	case 3, 4, 5:
		return fmt.Sprintf("{%s, %s}", a.of(api.KindVertex, 0, in), a.of(api.KindVertex, deep-1, in))
	case 6:
		return "nobody"
	case 7:
		return "{}"
	}
	return a.one("vertices", "vertices", "few", "many", "even")
}

// loose is a text with other blanks than it has, and some more.
func loose(text string, next func(int) int) string {
	blanks := []string{" ", " ", "\n", "\t", "\r", "  ", " \r\n"}
	b := strings.Builder{}
	for _, r := range text {
		switch {
		case r == ' ':
			b.WriteString(blanks[next(len(blanks))])
		case strings.ContainsRune("(){},:@", r) && next(6) == 0:
			b.WriteString(string(r) + blanks[next(len(blanks))])
		default:
			b.WriteRune(r)
		}
	}
	return b.String()
}

// drawnPasses is a list of up to so many passes.
func drawnPasses(next func(int) int, most int) []int {
	var passes []int
	for range next(most + 1) {
		passes = append(passes, 1+next(4))
	}
	return passes
}

// passLists are all lists of up to so many passes.
func passLists(most int) [][]int {
	lists := [][]int{nil}
	for i := 0; i < len(lists); i++ {
		for pass := 1; len(lists[i]) < most && pass <= 4; pass++ {
			lists = append(lists, append(lists[i][:len(lists[i]):len(lists[i])], pass))
		}
	}
	return lists
}
