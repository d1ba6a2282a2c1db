package syntax_test

import (
	"slices"
	"strconv"
	"strings"

	"isthmus/api"
	"isthmus/lex"
)

// The words of calls and quantifiers, by their numbers.
var (
	callWords  = []string{"", "connected", "block", "bottleneck", "size", "total", "least", "most", "value", "degree", "rep"}
	quantWords = []string{"", "all", "some", "count", "sum", "min", "max"}
)

// signOf are the texts of the kinds that stand between two kids.
var signOf = map[int]string{
	api.EOr: "or", api.EAnd: "and", api.EEq: "=", api.ENe: "!=", api.ELess: "<", api.EAtMost: "<=",
	api.EAdd: "+", api.ESub: "-", api.EMul: "*", api.EDiv: "/", api.ERem: "%",
}

// rows are as S3 lists them; all others are 8.
var rows = map[int]int{
	api.EIf: 0, api.EQuant: 0, api.EOr: 1, api.EAnd: 2, api.ENot: 3, api.EEq: 4, api.ENe: 4, api.ELess: 4, api.EAtMost: 4,
	api.EAdd: 5, api.ESub: 5, api.EMul: 6, api.EDiv: 6, api.ERem: 6, api.ENeg: 7,
}

// asked are the rows that kids are asked for, as S3 lists them; all others 0.
var asked = map[int][]int{
	api.EOr: {1, 2}, api.EAnd: {2, 3}, api.ENot: {3}, api.EEq: {5, 5}, api.ENe: {5, 5}, api.ELess: {5, 5}, api.EAtMost: {5, 5},
	api.EAdd: {5, 6}, api.ESub: {5, 6}, api.EMul: {6, 7}, api.EDiv: {6, 7}, api.ERem: {6, 7}, api.ENeg: {7},
}

func plainRow(kind int) int {
	if row, is := rows[kind]; is {
		return row
	}
	return 8
}

// minus is how plainTokens tells the `-` of two kids from that of one.
const minus = "- of two"

// plainTokens are the tokens of a tree's print, by the words of S3.
func plainTokens(e api.Expr) []string {
	var kids [][]string
	for i, kid := range e.Kids {
		tokens := plainTokens(kid)
		if want := asked[e.Kind]; len(want) > i && plainRow(kid.Kind) < want[i] {
			tokens = slices.Concat([]string{"("}, tokens, []string{")"})
		}
		kids = append(kids, tokens)
	}
	var all []string // all kids with commas
	for i, kid := range kids {
		if i > 0 {
			all = append(all, ",")
		}
		all = append(all, kid...)
	}
	switch e.Kind {
	case api.EInt:
		return []string{strconv.Itoa(e.N)}
	case api.EBool:
		return []string{[]string{"false", "true"}[e.N]}
	case api.EVertex:
		return []string{"@", strconv.Itoa(e.N)}
	case api.EName, api.ESetName:
		return []string{e.Name}
	case api.ENeg:
		return slices.Concat([]string{"-"}, all)
	case api.ENot:
		return slices.Concat([]string{"not"}, all)
	case api.ESub:
		return slices.Concat(kids[0], []string{minus}, kids[1])
	case api.EIf:
		return slices.Concat([]string{"if"}, kids[0], []string{"then"}, kids[1], []string{"else"}, kids[2])
	case api.ECall:
		return slices.Concat([]string{callWords[e.N], "("}, all, []string{")"})
	case api.EQuant:
		return slices.Concat([]string{quantWords[e.N], e.Name, "in"}, kids[0], []string{":"}, kids[1])
	case api.ESetAll:
		return []string{"vertices"}
	case api.ESetAround:
		return slices.Concat([]string{"around", "("}, all, []string{")"})
	case api.ESetList:
		return slices.Concat([]string{"{"}, all, []string{"}"})
	}
	return slices.Concat(kids[0], []string{signOf[e.Kind]}, kids[1])
}

// plainText lays tokens behind one another, with the blanks that S3 names.
func plainText(tokens []string) string {
	bothSides := []string{"or", "and", "then", "else", "in", "=", "!=", "<", "<=", "+", "*", "/", "%", minus}
	behind := append([]string{"not", "if", ",", ":"}, quantWords[1:]...)
	var text strings.Builder
	for i, x := range tokens {
		if i > 0 && (slices.Contains(bothSides, x) || slices.Contains(bothSides, tokens[i-1]) || slices.Contains(behind, tokens[i-1])) {
			text.WriteString(" ")
		}
		if x == minus {
			x = "-"
		}
		text.WriteString(x)
	}
	return text.String()
}

// plainForm asks whether all parts of a tree are as the chapter's words have them.
func plainForm(e api.Expr, set bool) bool {
	number, name, kids := e.N == 0, e.Name == "", 2
	sets := make([]bool, len(e.Kids))
	switch e.Kind {
	case api.EInt, api.EVertex:
		number, kids = e.N >= 0, 0
	case api.EBool:
		number, kids = e.N == 0 || e.N == 1, 0
	case api.EName, api.ESetName:
		name, kids = lex.IsName(e.Name), 0
	case api.ENeg, api.ENot, api.ESetAround:
		kids = 1
	case api.EIf:
		kids = 3
	case api.ECall:
		number = e.N >= 1 && e.N <= 10
		if e.N > 3 {
			kids = 1
		}
	case api.EQuant:
		number, name = e.N >= 1 && e.N <= 6, lex.IsName(e.Name)
		if len(sets) > 0 {
			sets[0] = true
		}
	case api.ESetAll:
		kids = 0
	case api.ESetList:
		kids = len(e.Kids)
	default:
		if signOf[e.Kind] == "" {
			return false
		}
	}
	if !number || !name || len(e.Kids) != kids || set != (e.Kind >= api.ESetAll && e.Kind <= api.ESetList) {
		return false
	}
	for i, kid := range e.Kids {
		if !plainForm(kid, sets[i]) {
			return false
		}
	}
	return true
}

// plainPrint is the print of a tree, and whether it is right: what is open in the print is counted in its text.
func plainPrint(e api.Expr) (string, bool) {
	if !plainForm(e, false) {
		return "", false
	}
	text := plainText(plainTokens(e))
	if len(text) > 2000 {
		return "", false
	}
	got := plainRead(text, 1<<30, 1<<30)
	if got.e != api.OK || !plainSame(got.tree, e) {
		panic("the plain print " + text + " is not read as its tree")
	}
	if got.open > 64 || got.quants > 4 {
		return "", false
	}
	return text, true
}

func plainSame(a, b api.Expr) bool {
	if a.Kind != b.Kind || a.N != b.N || a.Name != b.Name || len(a.Kids) != len(b.Kids) {
		return false
	}
	for i := range a.Kids {
		if !plainSame(a.Kids[i], b.Kids[i]) {
			return false
		}
	}
	return true
}

// numbers are drawn one behind the other, always the same ones.
func numbers() func(below int) int {
	x := uint64(88172645463325252)
	return func(below int) int {
		x ^= x << 13
		x ^= x >> 7
		x ^= x << 17
		return int(x % uint64(below))
	}
}
