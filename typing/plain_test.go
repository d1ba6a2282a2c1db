package typing_test

import (
	"slices"
	"strings"
	"testing"

	"isthmus/api"
	"isthmus/syntax"
	"isthmus/typing"
)

// theTable is the chapter's.
const theTable = `
| EInt | | KindInt |
| EBool | | KindBool |
| EVertex, EName | | KindVertex |
| ENeg | KindInt | KindInt |
| EAdd, ESub, EMul, EDiv, ERem | KindInt, KindInt | KindInt |
| ENot | KindBool | KindBool |
| EAnd, EOr | KindBool, KindBool | KindBool |
| ELess, EAtMost | KindInt, KindInt | KindBool |
| EEq, ENe | any, the same as the first | KindBool |
| EIf | KindBool, any, the same as the second | that of the second |
| CallConnected, CallBlock | KindVertex, KindVertex | KindBool |
| CallBottleneck | KindVertex, KindVertex | KindInt |
| CallSize, CallTotal, CallLeast, CallMost, CallValue, CallDegree | KindVertex | KindInt |
| CallRep | KindVertex | KindVertex |
| QuantAll, QuantSome | the body KindBool | KindBool |
| QuantCount | the body KindBool | KindInt |
| QuantSum, QuantMin, QuantMax | the body KindInt | KindInt |
| ESetAround | KindVertex | (a set) |
| ESetList | each KindVertex | (a set) |
`

// row is what the table says of a part, in its words.
type row struct {
	kids []string
	is   string
}

// readTable has the rows by the names of their parts.
func readTable() map[string]row {
	rows := map[string]row{}
	for line := range strings.Lines(theTable) {
		cells := strings.Split(strings.TrimSpace(line), "|")
		if len(cells) < 4 {
			continue
		}
		x := row{is: strings.TrimSpace(cells[3])}
		if kids := strings.TrimSpace(cells[2]); kids != "" {
			x.kids = strings.Split(kids, ", ")
		}
		for part := range strings.SplitSeq(strings.TrimSpace(cells[1]), ", ") {
			rows[part] = x
		}
	}
	return rows
}

var table = readTable()

var kindNames = []string{"any", "KindInt", "KindBool", "KindVertex"}

var partNames = map[int]string{
	api.EInt: "EInt", api.EBool: "EBool", api.EVertex: "EVertex", api.EName: "EName", api.ENeg: "ENeg", api.ENot: "ENot",
	api.EAdd: "EAdd", api.ESub: "ESub", api.EMul: "EMul", api.EDiv: "EDiv", api.ERem: "ERem",
	api.EEq: "EEq", api.ENe: "ENe", api.ELess: "ELess", api.EAtMost: "EAtMost", api.EAnd: "EAnd", api.EOr: "EOr", api.EIf: "EIf",
	api.ESetAround: "ESetAround", api.ESetList: "ESetList",
}

var callNames = map[int]string{
	api.CallConnected: "CallConnected", api.CallBlock: "CallBlock", api.CallBottleneck: "CallBottleneck", api.CallSize: "CallSize", api.CallTotal: "CallTotal",
	api.CallLeast: "CallLeast", api.CallMost: "CallMost", api.CallValue: "CallValue", api.CallDegree: "CallDegree", api.CallRep: "CallRep",
}

var quantNames = map[int]string{
	api.QuantAll: "QuantAll", api.QuantSome: "QuantSome", api.QuantCount: "QuantCount", api.QuantSum: "QuantSum", api.QuantMin: "QuantMin", api.QuantMax: "QuantMax",
}

func rowOf(e api.Expr) row {
	switch e.Kind {
	case api.ECall:
		return table[callNames[e.N]]
	case api.EQuant:
		return table[quantNames[e.N]]
	}
	return table[partNames[e.Kind]]
}

// plainKind is what a part is, whether or not all is right within it.
func plainKind(e api.Expr) int {
	is := rowOf(e).is
	if is == "that of the second" {
		return plainKind(e.Kids[1])
	}
	return slices.Index(kindNames, is)
}

// place is a part where it stands: a kid of the one above it.
type place struct {
	part  api.Expr
	above *place
	kid   int
}

// inOrder is all parts, each behind its kids: the other way round from the whole first, and then its kids from the right.
func inOrder(e api.Expr) []*place {
	var all []*place
	waiting := []*place{{part: e}}
	for len(waiting) > 0 {
		p := waiting[len(waiting)-1]
		waiting = waiting[:len(waiting)-1]
		all = append(all, p)
		for i, kid := range p.part.Kids {
			waiting = append(waiting, &place{kid, p, i})
		}
	}
	slices.Reverse(all)
	return all
}

// binds asks whether a quantifier of a name is around a place.
func (p *place) binds(name string) bool {
	for ; p.above != nil; p = p.above {
		if p.above.part.Kind == api.EQuant && p.kid == 1 && p.above.part.Name == name {
			return true
		}
	}
	return false
}

// must is the kind that is asked for at a place; 0, if any will do.
func (p *place) must() int {
	if p.above == nil {
		return 0
	}
	kids := rowOf(p.above.part).kids
	if p.above.part.Kind == api.EQuant {
		if p.kid == 0 {
			return 0
		}
		return slices.Index(kindNames, strings.TrimPrefix(kids[0], "the body "))
	}
	if word, each := strings.CutPrefix(kids[0], "each "); each {
		return slices.Index(kindNames, word)
	}
	switch kids[p.kid] {
	case "the same as the first":
		return plainKind(p.above.part.Kids[0])
	case "the same as the second":
		return plainKind(p.above.part.Kids[1])
	}
	return slices.Index(kindNames, kids[p.kid])
}

// plainCheck holds each part of a tree to what is asked of it, in the order in which they are done.
func plainCheck(e api.Expr) (int, api.Errno, int) {
	if !syntax.Right(e) {
		return 0, api.ErrSyntaxTree, 0
	}
	for _, p := range inOrder(e) {
		if p.part.Kind == api.EName && !p.binds(p.part.Name) {
			return 0, api.ErrTypeName, p.part.At
		}
		if must := p.must(); must != 0 && plainKind(p.part) != must {
			return 0, api.ErrTypeKind, p.part.At
		}
	}
	return plainKind(e), api.OK, 0
}

// checked is what Check answers, which must be what the plain way answers.
func checked(t *testing.T, e api.Expr) (int, api.Errno, int) {
	t.Helper()
	wantKind, wantErr, wantAt := plainCheck(e)
	kind, err, at := typing.Check(e)
	if kind != wantKind || err != wantErr || at != wantAt {
		t.Fatalf("Check of %s: kind %d, error %d at %d; wanted %d, %d at %d", told(e), kind, err, at, wantKind, wantErr, wantAt)
	}
	return kind, err, at
}

// want holds what Check answers to what is said of a tree, and the plain way too.
func want(t *testing.T, e api.Expr, wantKind int, wantErr api.Errno, wantAt int) {
	t.Helper()
	if kind, err, at := checked(t, e); kind != wantKind || err != wantErr || at != wantAt {
		t.Errorf("Check of %s: kind %d, error %d at %d; wanted %d, %d at %d", told(e), kind, err, at, wantKind, wantErr, wantAt)
	}
}

// parsed is the tree of a text that must be one.
func parsed(t *testing.T, s string) api.Expr {
	t.Helper()
	e, err, at := syntax.Parse(s)
	if err != api.OK {
		t.Fatalf("Parse(%q): %d at %d", s, err, at)
	}
	return e
}

func wantKind(t *testing.T, s string, kind int) {
	t.Helper()
	want(t, parsed(t, s), kind, api.OK, 0)
}

func wantFault(t *testing.T, s string, fault api.Errno, at int) {
	t.Helper()
	want(t, parsed(t, s), 0, fault, at)
}

func numbers() func(below int) int {
	x := uint64(88172645463325252)
	return func(below int) int {
		x ^= x << 13
		x ^= x >> 7
		x ^= x << 17
		return int(x % uint64(below))
	}
}
