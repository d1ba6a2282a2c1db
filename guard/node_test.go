package guard_test

import (
	"fmt"
	"strings"
	"testing"

	"isthmus/api"
	"isthmus/plan"
	"isthmus/syntax"
)

func integer(n int) api.Node { return api.Node{Kind: api.EInt, N: n} }

func boolean(n int) api.Node { return api.Node{Kind: api.EBool, N: n} }

func vertex(n int) api.Node { return api.Node{Kind: api.EVertex, N: n} }

func variable(n int) api.Node { return api.Node{Kind: api.EVar, N: n} }

func of(kind int, kids ...api.Node) api.Node { return api.Node{Kind: kind, Kids: kids} }

func call(n int, kids ...api.Node) api.Node { return api.Node{Kind: api.ECall, N: n, Kids: kids} }

func quant(n int, kids ...api.Node) api.Node { return api.Node{Kind: api.EQuant, N: n, Kids: kids} }

func cell(n int, kids ...api.Node) api.Node { return api.Node{Kind: api.ECell, N: n, Kids: kids} }

func setName(text string) api.Node { return api.Node{Kind: api.ESetName, Name: text} }

var all = of(api.ESetAll)

// made is a plan of a root, with cells.
func made(root api.Node, cells ...int) api.Plan { return api.Plan{Root: root, Cells: cells} }

// parsed is the tree of a text that must be one.
func parsed(t *testing.T, s string) api.Expr {
	t.Helper()
	e, err, at := syntax.Parse(s)
	if err != api.OK {
		t.Fatalf("Parse(%q): %d at %d", s, err, at)
	}
	return e
}

// planOf is the plan of a text that must have one.
func planOf(t *testing.T, s string) api.Plan {
	t.Helper()
	p, err := plan.Of(parsed(t, s))
	if err != api.OK {
		t.Fatalf("Of(%q): %d", s, err)
	}
	return p
}

var kindLetters = [...]string{
	api.EInt: "int", api.EBool: "bool", api.EVertex: "@", api.EName: "name", api.EVar: "var", api.ENeg: "neg", api.ENot: "not", api.EAdd: "add", api.ESub: "sub", api.EMul: "mul", api.EDiv: "div", api.ERem: "rem",
	api.EEq: "eq", api.ENe: "ne", api.ELess: "less", api.EAtMost: "most", api.EAnd: "and", api.EOr: "or", api.EIf: "if", api.ECall: "call", api.EQuant: "quant",
	api.ESetAll: "all", api.ESetName: "set", api.ESetAround: "around", api.ESetList: "list", api.ECell: "cell",
}

// spelled is a node as a text: two are the same, if they are spelled alike.
func spelled(n api.Node) string {
	var b strings.Builder
	spell(&b, n)
	return b.String()
}

func spell(b *strings.Builder, n api.Node) {
	kind := fmt.Sprint("kind", n.Kind)
	if n.Kind > 0 && n.Kind < len(kindLetters) {
		kind = kindLetters[n.Kind]
	}
	fmt.Fprintf(b, "%s.%d%q(", kind, n.N, n.Name)
	for i, kid := range n.Kids {
		if i > 0 {
			b.WriteString(", ")
		}
		spell(b, kid)
	}
	b.WriteString(")")
}

// told is a plan as a message has room for it.
func told(p api.Plan) string {
	text := fmt.Sprintf("%s, cells %v", strings.ReplaceAll(strings.ReplaceAll(spelled(p.Root), `""`, ""), "()", ""), p.Cells)
	if len(text) > 700 {
		text = text[:700] + ".."
	}
	return text
}

// copied is a node in memory of its own.
func copied(n api.Node) api.Node {
	var kids []api.Node
	for _, kid := range n.Kids {
		kids = append(kids, copied(kid))
	}
	n.Kids = kids
	return n
}

// each does something to all parts of a node, the whole first.
func each(n *api.Node, do func(*api.Node)) {
	do(n)
	for i := range n.Kids {
		each(&n.Kids[i], do)
	}
}

// hangsOn is on how many of the quantifiers around it a part hangs.
func hangsOn(n api.Node, around int) int {
	h := 0
	each(&n, func(x *api.Node) {
		if x.Kind == api.EVar && x.N < around {
			h = max(h, x.N+1)
		}
	})
	return h
}

// chain is so many parts one in another, each made of the one within it.
func chain(many int, n api.Node, around func(api.Node) api.Node) api.Node {
	for range many {
		n = around(n)
	}
	return n
}

func numbers() func(below int) int {
	x := uint64(88172645463325252)
	return func(below int) int {
		x ^= x << 13
		x ^= x >> 7
		x ^= x << 17
		return int(x % uint64(below))
	}
}
