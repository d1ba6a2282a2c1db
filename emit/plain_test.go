package emit_test

import (
	"fmt"
	"slices"
	"strconv"
	"strings"

	"isthmus/api"
	"isthmus/plan"
)

// table is the chapter's: a part, and what it is turned into. Behind an operation stand its A and its B; a `-` is an A of 0 ahead of a B.
const table = `
EInt = OpConst k(n) KindInt
EBool = OpConst k(n) KindBool
EVertex = OpVertex k(n)
EVar = OpVar n
ENeg = kid; OpNeg
ENot = kid; OpNot
EAdd = kids; OpAdd
ESub = kids; OpSub
EMul = kids; OpMul
EDiv = kids; OpDiv
ERem = kids; OpRem
EEq = kids; OpEq - kind
ENe = kids; OpEq - kind; OpNot
ELess = kids; OpLess - 0
EAtMost = kids; OpLess - 1
EAnd = left; OpFalse L; right; OpJump M; L: OpConst k(0) KindBool; M:
EOr = left; OpTrue L; right; OpJump M; L: OpConst k(1) KindBool; M:
EIf = first; OpFalse L; second; OpJump M; L: third; M:
ECall = kids; OpCall n
ECell = OpFetch n M; kid; OpKeep n; M:
ESetAll = OpAll
ESetName = OpNamed s(x)
ESetAround = kid; OpAround
ESetList = kids; OpList many
QuantAll = set; L: OpNext N; clears; body; OpTrue L; OpClose; OpConst k(0) KindBool; OpJump M; N: OpConst k(1) KindBool; M:
QuantSome = set; L: OpNext N; clears; body; OpFalse L; OpClose; OpConst k(1) KindBool; OpJump M; N: OpConst k(0) KindBool; M:
QuantCount = set; OpConst k(0) KindInt; L: OpNext M; clears; body; OpFalse L; OpConst k(1) KindInt; OpAdd; OpJump L; M:
QuantSum = set; OpConst k(0) KindInt; L: OpNext M; clears; body; OpAdd; OpJump L; M:
QuantMin = set; OpConst k(0) KindInt; OpConst k(0) KindBool; L: OpNext N; clears; body; OpBest 0; OpJump L; N: OpSome
QuantMax = set; OpConst k(0) KindInt; OpConst k(0) KindBool; L: OpNext N; clears; body; OpBest 1; OpJump L; N: OpSome
`

// The names by which the table calls kinds, by their numbers.
var (
	operations  = strings.Fields("OpHalt OpConst OpVertex OpVar OpNeg OpNot OpAdd OpSub OpMul OpDiv OpRem OpEq OpLess OpJump OpFalse OpTrue OpCall OpFetch OpKeep OpClear OpAll OpNamed OpAround OpList OpNext OpClose OpBest OpSome")
	parts       = strings.Fields("- EInt EBool EVertex EName EVar ENeg ENot EAdd ESub EMul EDiv ERem EEq ENe ELess EAtMost EAnd EOr EIf ECall EQuant ESetAll ESetName ESetAround ESetList ECell")
	quantifiers = strings.Fields("- QuantAll QuantSome QuantCount QuantSum QuantMin QuantMax")
)

// rows are those of the table, each cut into what stands one behind the other.
var rows = readTable()

func readTable() map[string][]string {
	rows := map[string][]string{}
	for _, line := range strings.Split(strings.TrimSpace(table), "\n") {
		part, row, _ := strings.Cut(line, " = ")
		rows[part] = strings.Split(row, "; ")
	}
	return rows
}

func rowOf(n api.Node) []string {
	if n.Kind == api.EQuant {
		return rows[quantifiers[n.N]]
	}
	return rows[parts[n.Kind]]
}

// line is a word whose A and B are still told by names.
type line struct {
	op   string
	args []string
	of   api.Node
	part int // the labels of a part are its own
}

// listing is a plan's lines, with the numbers of those that labels stand at.
type listing struct {
	cells  []int
	lines  []line
	labels map[string]int
	parts  int
	kinds  []int
}

// list lays what a part is turned into, with so many quantifiers around it.
func (l *listing) list(n api.Node, around int) {
	part := l.parts
	l.parts++
	if n.Kind == api.ECell && l.kinds[n.N] == 0 {
		l.kinds[n.N] = plainKind(n)
	}
	for _, item := range rowOf(n) {
		if label, rest, is := strings.Cut(item, ":"); is {
			l.labels[label+strconv.Itoa(part)] = len(l.lines)
			item = strings.TrimSpace(rest)
		}
		switch item {
		case "":
		case "kid", "left", "first", "set":
			l.list(n.Kids[0], around)
		case "right", "second":
			l.list(n.Kids[1], around)
		case "third":
			l.list(n.Kids[2], around)
		case "kids":
			for _, kid := range n.Kids {
				l.list(kid, around)
			}
		case "body":
			l.list(n.Kids[1], around+1)
		case "clears":
			for i, level := range l.cells {
				if level == around+1 {
					l.lines = append(l.lines, line{op: "OpClear", args: []string{strconv.Itoa(i)}})
				}
			}
		default:
			words := strings.Fields(item)
			l.lines = append(l.lines, line{words[0], words[1:], n, part})
		}
	}
}

// plainKind asks the layer below for the kind of a part, in whose place it puts one that hangs on nothing.
func plainKind(n api.Node) int { return plan.Kind(api.Plan{Root: unbound(n)}) }

func unbound(n api.Node) api.Node {
	switch n.Kind {
	case api.EVar:
		return vertex(0)
	case api.ECell:
		return unbound(n.Kids[0])
	}
	var kids []api.Node
	for _, kid := range n.Kids {
		kids = append(kids, unbound(kid))
	}
	n.Kids = kids
	return n
}

// plainCode is the code of a right plan, however long it comes to be.
func plainCode(p api.Plan) api.Code {
	l := &listing{cells: p.Cells, labels: map[string]int{}, kinds: make([]int, len(p.Cells))}
	l.list(p.Root, 0)
	l.lines = append(l.lines, line{op: "OpHalt"})
	var c api.Code
	for _, x := range l.lines {
		word := uint64(slices.Index(operations, x.op)) << 56
		for i, arg := range x.args {
			word += uint64(l.number(&c, x, arg)) << (28 - 28*i)
		}
		c.Words = append(c.Words, word)
	}
	for _, kind := range l.kinds {
		c.Cells = append(c.Cells, max(kind, api.KindInt))
	}
	return c
}

// number is what an A or a B of a line is.
func (l *listing) number(c *api.Code, x line, arg string) int {
	switch arg {
	case "-":
		return 0
	case "n":
		return x.of.N
	case "many":
		return len(x.of.Kids)
	case "kind":
		return plainKind(x.of.Kids[0])
	case "KindInt":
		return api.KindInt
	case "KindBool":
		return api.KindBool
	case "k(n)":
		return placeIn(&c.Consts, x.of.N)
	case "k(0)":
		return placeIn(&c.Consts, 0)
	case "k(1)":
		return placeIn(&c.Consts, 1)
	case "s(x)":
		return placeIn(&c.Names, x.of.Name)
	case "L", "M", "N":
		return l.labels[arg+strconv.Itoa(x.part)]
	}
	n, err := strconv.Atoi(arg)
	if err != nil {
		panic(err)
	}
	return n
}

// placeIn is where a thing stands in a list, at whose end it is put if it is not there.
func placeIn[T comparable](list *[]T, x T) int {
	if !slices.Contains(*list, x) {
		*list = append(*list, x)
	}
	return slices.Index(*list, x)
}

// fields are a word's, laid as chapter 1 says.
func fields(word uint64) (op, a, b int) {
	return int(word >> 56), int(word >> 28 & (1<<28 - 1)), int(word & (1<<28 - 1))
}

// written is code as a text: words with their A and B, but for those that are 0 at the end; then its lists, if there is something in them.
func written(c api.Code) string {
	var words []string
	for _, word := range c.Words {
		op, a, b := fields(word)
		name := fmt.Sprint("Op", op)
		if op < len(operations) {
			name = operations[op]
		}
		text := fmt.Sprintf("%s %d %d", strings.TrimPrefix(name, "Op"), a, b)
		words = append(words, strings.TrimSuffix(strings.TrimSuffix(text, " 0"), " 0"))
	}
	text := strings.Join(words, ", ")
	if len(c.Consts) > 0 {
		text += fmt.Sprint("; consts ", c.Consts)
	}
	if len(c.Names) > 0 {
		text += fmt.Sprint("; names ", c.Names)
	}
	if len(c.Cells) > 0 {
		text += fmt.Sprint("; cells ", c.Cells)
	}
	return text
}

func sameCode(a, b api.Code) bool {
	return slices.Equal(a.Words, b.Words) && slices.Equal(a.Consts, b.Consts) && slices.Equal(a.Names, b.Names) && slices.Equal(a.Cells, b.Cells)
}
