package plan_test

import (
	"regexp"
	"slices"
	"strings"
	"testing"

	"isthmus/api"
	"isthmus/plan"
)

// theTable is chapter 13's, with a plan's variables, its sets without kids and its cells.
const theTable = `
| EInt | | KindInt |
| EBool | | KindBool |
| EVertex, EVar | | KindVertex |
| ENeg | KindInt | KindInt |
| EAdd, ESub, EMul, EDiv, ERem | KindInt, KindInt | KindInt |
| ENot | KindBool | KindBool |
| EAnd, EOr | KindBool, KindBool | KindBool |
| ELess, EAtMost | KindInt, KindInt | KindBool |
| EEq, ENe | any, the same as the first | KindBool |
| EIf | KindBool, any, the same as the second | that of the second |
| CallConnected, CallBlock | KindVertex, KindVertex | KindBool |
| CallBottleneck | KindVertex, KindVertex | KindInt |
| CallSize, CallTotal, CallLeast, CallMost, CallValue, CallDegree | KindVertex | KindInt |
| CallRep | KindVertex | KindVertex |
| QuantAll, QuantSome | set, KindBool | KindBool |
| QuantCount | set, KindBool | KindInt |
| QuantSum, QuantMin, QuantMax | set, KindInt | KindInt |
| ESetAll, ESetName | | set |
| ESetAround | KindVertex | set |
| ESetList | each KindVertex | set |
| ECell | any | that of the first |
`

// row is what the table says of a part, in its words.
type row struct {
	kids []string
	is   string
}

func readTable() map[string]row {
	rows := map[string]row{}
	for line := range strings.Lines(theTable) {
		columns := strings.Split(strings.TrimSpace(line), "|")
		if len(columns) < 4 {
			continue
		}
		x := row{is: strings.TrimSpace(columns[3])}
		if kids := strings.TrimSpace(columns[2]); kids != "" {
			x.kids = strings.Split(kids, ", ")
		}
		for part := range strings.SplitSeq(strings.TrimSpace(columns[1]), ", ") {
			rows[part] = x
		}
	}
	return rows
}

var table = readTable()

var kindNames = []string{"none", "KindInt", "KindBool", "KindVertex", "set"}

var partNames = map[int]string{
	api.EInt: "EInt", api.EBool: "EBool", api.EVertex: "EVertex", api.EVar: "EVar", api.ENeg: "ENeg", api.ENot: "ENot",
	api.EAdd: "EAdd", api.ESub: "ESub", api.EMul: "EMul", api.EDiv: "EDiv", api.ERem: "ERem",
	api.EEq: "EEq", api.ENe: "ENe", api.ELess: "ELess", api.EAtMost: "EAtMost", api.EAnd: "EAnd", api.EOr: "EOr", api.EIf: "EIf",
	api.ESetAll: "ESetAll", api.ESetName: "ESetName", api.ESetAround: "ESetAround", api.ESetList: "ESetList", api.ECell: "ECell",
}

var callNames = map[int]string{
	api.CallConnected: "CallConnected", api.CallBlock: "CallBlock", api.CallBottleneck: "CallBottleneck", api.CallSize: "CallSize", api.CallTotal: "CallTotal",
	api.CallLeast: "CallLeast", api.CallMost: "CallMost", api.CallValue: "CallValue", api.CallDegree: "CallDegree", api.CallRep: "CallRep",
}

var quantNames = map[int]string{
	api.QuantAll: "QuantAll", api.QuantSome: "QuantSome", api.QuantCount: "QuantCount", api.QuantSum: "QuantSum", api.QuantMin: "QuantMin", api.QuantMax: "QuantMax",
}

// rowOf is what the table says of a part; false, if there is no such part.
func rowOf(n api.Node) (row, bool) {
	name := partNames[n.Kind]
	switch n.Kind {
	case api.ECall:
		name = callNames[n.N]
	case api.EQuant:
		name = quantNames[n.N]
	}
	x, is := table[name]
	return x, is
}

// plainKind is what a part is whose kids are of the number that they must be.
func plainKind(n api.Node) string {
	x, _ := rowOf(n)
	switch x.is {
	case "that of the first":
		return plainKind(n.Kids[0])
	case "that of the second":
		return plainKind(n.Kids[1])
	}
	return x.is
}

// place is a part where it stands: a kid of the one above it.
type place struct {
	part  api.Node
	above *place
	kid   int
}

// placesOf is all parts, the whole first; false, if there are more than a plan may have, and then not all of them.
func placesOf(n api.Node) ([]*place, bool) {
	places := []*place{{part: n}}
	for i := 0; i < len(places); i++ {
		if len(places) > 4096 || len(places[i].part.Kids) > 4096 {
			return places, false
		}
		for k, kid := range places[i].part.Kids {
			places = append(places, &place{kid, places[i], k})
		}
	}
	return places, true
}

// quantifiers counts those above a place: all of them, and those in whose bodies it is.
func (p *place) quantifiers() (within, around int) {
	for ; p.above != nil; p = p.above {
		if p.above.part.Kind == api.EQuant {
			within++
			around += p.kid
		}
	}
	return within, around
}

// setForm is what DOC.md says of the bytes of a name; the words of the language are none.
var setForm = regexp.MustCompile(`\A[a-z][a-z0-9_]{0,11}\z`)

const theWords = "all and around block bottleneck connected count degree else false if in least max min most not or rep size some sum then total true value vertices"

func plainName(text string) bool {
	return setForm.MatchString(text) && !slices.Contains(strings.Fields(theWords), text)
}

// ownHolds asks for what a part has by itself: its number of kids, its number, its name.
func ownHolds(p *place, cells int) bool {
	n := p.part
	x, is := rowOf(n)
	if !is || n.Kind != api.ESetList && len(n.Kids) != len(x.kids) {
		return false
	}
	if n.Kind == api.ESetName && !plainName(n.Name) || n.Kind != api.ESetName && n.Name != "" {
		return false
	}
	_, around := p.quantifiers()
	switch n.Kind {
	case api.EInt, api.ECall, api.EQuant:
		return true
	case api.EVertex:
		return n.N >= 0
	case api.EVar:
		return 0 <= n.N && n.N < around
	case api.EBool:
		return n.N == 0 || n.N == 1
	case api.ECell:
		return 0 <= n.N && n.N < cells
	}
	return n.N == 0
}

// kindsHold asks for the kinds of a part's kids.
func kindsHold(n api.Node) bool {
	x, _ := rowOf(n)
	for i, kid := range n.Kids {
		must := x.kids[min(i, len(x.kids)-1)]
		is := plainKind(kid)
		switch must {
		case "any":
			if is == "set" {
				return false
			}
			continue
		case "the same as the first":
			must = plainKind(n.Kids[0])
		case "the same as the second":
			must = plainKind(n.Kids[1])
		}
		if is != strings.TrimPrefix(must, "each ") {
			return false
		}
	}
	return true
}

// hangsOn is on how many of the quantifiers around it a part hangs.
func hangsOn(n api.Node, around int) int {
	h := 0
	each(&n, func(x *api.Node) {
		if x.Kind == api.EVar && x.N < around {
			h = max(h, x.N+1)
		}
	})
	return h
}

// cellsHold asks for the cells of a plan whose parts hold by themselves.
func cellsHold(places []*place, cells []int) bool {
	first := map[int]string{}
	for _, p := range places {
		if p.part.Kind != api.ECell {
			continue
		}
		level, kid := cells[p.part.N], p.part.Kids[0]
		_, around := p.quantifiers()
		if level > around || hangsOn(kid, around) > level {
			return false
		}
		if text, is := first[p.part.N]; is && text != spelled(kid) {
			return false
		}
		first[p.part.N] = spelled(kid)
	}
	return true
}

// plainRight asks the chapter's words one by one, each of all parts.
func plainRight(p api.Plan) bool {
	places, few := placesOf(p.Root)
	if !few || len(p.Cells) > 256 {
		return false
	}
	for _, level := range p.Cells {
		if level < 0 || level > 4 {
			return false
		}
	}
	for _, x := range places {
		within, _ := x.quantifiers()
		if x.part.Kind == api.EQuant && within >= 4 || !ownHolds(x, len(p.Cells)) {
			return false
		}
	}
	for _, x := range places {
		isSet := slices.Contains([]int{api.ESetAll, api.ESetName, api.ESetAround, api.ESetList}, x.part.Kind)
		isFirst := x.above != nil && x.above.part.Kind == api.EQuant && x.kid == 0
		if isSet != isFirst || !kindsHold(x.part) {
			return false
		}
	}
	return cellsHold(places, p.Cells)
}

// checked is whether a plan is right, which must be what the plain way says; and so must its kind.
func checked(t *testing.T, p api.Plan) bool {
	t.Helper()
	want := plainRight(p)
	if got := plan.Right(p); got != want {
		t.Fatalf("Right is %v of %s", got, told(p))
	}
	kind := 0
	if want {
		kind = slices.Index(kindNames, plainKind(p.Root))
	}
	if got := plan.Kind(p); got != kind {
		t.Fatalf("Kind is %d, not %d, of %s", got, kind, told(p))
	}
	return want
}

// wantRight holds both ways to what is said of a plan.
func wantRight(t *testing.T, want bool, p api.Plan) {
	t.Helper()
	if checked(t, p) != want {
		t.Errorf("right should be %v: %s", want, told(p))
	}
}
