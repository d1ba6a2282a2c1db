package session_test

import (
	"fmt"
	"strings"
	"testing"

	"isthmus/api"
	"isthmus/code"
	"isthmus/engine"
)

// sumOf is what a query's code is told by, the lowest 32 bits of its sum.
func sumOf(t *testing.T, text string, passes ...int) string {
	t.Helper()
	q, e, _ := engine.Compile(text, passes)
	if e != api.OK {
		t.Fatal(text, e)
	}
	return fmt.Sprint(code.Sum(q.Code()) % (1 << 32))
}

// docGraph is that of DOC.md's examples, in lines.
const docGraph = `
graph 64 192 -> ok
vertex 3 30 -> ok
vertex 1 10 -> ok
vertex 5 50 -> ok
vertex 2 20 -> ok
vertex 4 40 -> ok
edge 14 3 4 2 -> ok
edge 13 3 1 9 -> ok
edge 11 1 2 4 -> ok
edge 12 2 3 7 -> ok
set few -> ok
put few 5 -> ok
put few 1 -> ok
put few 4 -> ok
`

// The chapter's examples.
func TestExamples(t *testing.T) {
	follow(t, `
graph 9 9 -> ok
vertex 1 10 -> ok
vertex 2 20 -> ok
edge 7 1 2 5 -> ok
ask connected(@1, @2) -> true 4
unvertex 1 -> error 104
edges -> edges 7:1-2:5
ask 1 + -> error 120 at 3
mean size(@2) -> int 2 2
`)
	follow(t, `
ask 1 -> nothing
graph 0 1 -> error 1
code 1 + 2 -> words 4 stack 2 rounds 0 bound 4 sum `+sumOf(t, "1 + 2"))
}

// DOC.md's ten examples of the whole, by whatever passes.
func TestTheWhole(t *testing.T) {
	for _, passes := range []string{"-", "1", "2", "3", "4", "1234", "4321", "24131324"} {
		lines := docGraph + "passes " + passes + " -> ok\n"
		for text, worth := range map[string]string{
			"connected(@1, @4)": "true", "connected(@1, @5)": "false", "connected(@1, @9)": "fault 3",
			"block(@1, @3)": "true", "block(@3, @4)": "false",
			"bottleneck(@1, @3)": "int 7", "bottleneck(@1, @5)": "fault 2", "bottleneck(@1, @1)": "fault 2",
			"size(@2)": "int 4", "total(@2)": "int 100", "least(@5)": "int 50", "rep(@4)": "vertex 1",
			"all v in few: connected(v, @1)": "false", "count v in few: connected(v, @1)": "int 2", "max v in vertices: degree(v)": "int 3",
			"min v in {}: value(v)": "fault 2", "sum v in nobody: 1": "fault 5",
			"9223372036854775807 + 1": "fault 1", "1 / 0": "fault 4", "true or 1 / 0 = 1": "true", "-9223372036854775807 - 1": "int -9223372036854775808",
			"some v in around(@1): all w in around(v): v = w or bottleneck(v, w) < 8": "true", "some v in around(@1): all w in around(v): bottleneck(v, w) < 8 or v = w": "fault 2",
			"size(@1) + size(@2) + size(@3)": "int 12", "sum v in vertices: size(@1)": "int 20",
		} {
			lines += fmt.Sprintf("ask %s -> %s *\nmean %s -> %s *\n", text, worth, text, worth)
		}
		for text, wrong := range map[string]string{"connected(@1, 2)": "error 131 at 14", "connected(@1 @2)": "error 120 at 13", "v = @1": "error 130 at 0"} {
			lines += strings.ReplaceAll("ask # -> !\nmean # -> !\ncode # -> !\ntext # -> !\n", "# -> !", text+" -> "+wrong)
		}
		follow(t, lines+"bridges -> bridges 14\nforest -> forest 11 12 14\nfuel 3 -> ok\nask size(@1) + size(@2) + size(@3) -> fault 6 3")
	}
}

// Without a store these tell nothing, whatever else is wrong; the others tell what they always do.
func TestNothing(t *testing.T) {
	lines := `
vertex 1 1 -> nothing
vertex -1 1 -> nothing
unvertex 1 -> nothing
value 1 1 -> nothing
edge 1 2 3 4 -> nothing
edge -1 2 2 4 -> nothing
unedge 1 -> nothing
weight 1 1 -> nothing
set a -> nothing
set A -> nothing
unset a -> nothing
put a 1 -> nothing
take a 1 -> nothing
ask 1 -> nothing
ask 1 + -> nothing
ask \ -> nothing
mean 1 -> nothing
mean 1 + true -> nothing
vertices -> nothing
edges -> nothing
forest -> nothing
bridges -> nothing
members a -> nothing
members A -> nothing
around 1 -> nothing
text 1+size( @1 ) -> 1 + size(@1)
text 1 + -> error 120 at 3
code sum v in vertices: 1 -> words * stack * rounds 1 bound * sum *
code \ -> error 110 at 0
fuel 7 -> ok
passes 9 -> ok
ask 1 -> nothing
mean 1 -> nothing
code 1 -> error 220 at 0
text 1 -> error 220 at 0
`
	follow(t, lines)
	follow(t, "graph 0 0 -> error 1\ngraph 65 0 -> error 1\ngraph 1 -1 -> error 1\ngraph 1 193 -> error 1\ngraph 4611686018427387903 -4611686018427387904 -> error 1"+lines)
	follow(t, "vertices -> nothing\ngraph 1 0 -> ok\nvertices -> vertices\nask 1 -> int 1 2")
}

// A new store takes the place of the old one; a refused one does not. Fuel and passes stay.
func TestGraph(t *testing.T) {
	follow(t, docGraph+`
fuel 2 -> ok
passes 1 -> ok
graph 0 5 -> error 1
graph 65 5 -> error 1
graph 5 -1 -> error 1
graph 5 193 -> error 1
vertices -> vertices 1:10 2:20 3:30 4:40 5:50
members few -> members 1 4 5
graph 2 1 -> ok
vertices -> vertices
edges -> edges
forest -> forest
bridges -> bridges
members few -> error 93
around 1 -> error 102
ask 1 + 2 + 3 -> int 6 2
mean 1 + 2 + 3 -> fault 6 2
vertex 1 10 -> ok
vertex 2 20 -> ok
vertex 3 30 -> error 101
edge 1 1 2 3 -> ok
edge 2 1 2 3 -> error 101
graph 64 192 -> ok
graph 1 0 -> ok
vertex 9 9 -> ok
vertex 8 8 -> error 101
vertices -> vertices 9:9
`)
}

// What the store refuses is told by its number, and nothing is changed.
func TestChanges(t *testing.T) {
	follow(t, docGraph+`
vertex -1 0 -> error 1
vertex 1099511627777 0 -> error 1
vertex 0 1099511627777 -> error 1
vertex 0 -1099511627777 -> error 1
vertex 1 1099511627777 -> error 1
vertex 1 1 -> error 100
vertex 1099511627776 1099511627776 -> ok
vertex 0 -1099511627776 -> ok
unvertex 9 -> error 102
unvertex -9 -> error 102
unvertex 4 -> error 104
value 9 1099511627777 -> error 102
value 1 1099511627777 -> error 1
value 1 -1099511627777 -> error 1
value 1 -7 -> ok
vertices -> vertices 0:-1099511627776 1:-7 2:20 3:30 4:40 5:50 1099511627776:1099511627776
edge 14 1 9 1099511627777 -> error 1
edge -1 1 2 0 -> error 1
edge 1099511627777 1 2 0 -> error 1
edge 14 1 9 0 -> error 100
edge 15 1 9 0 -> error 102
edge 15 9 9 0 -> error 102
edge 15 1 1 0 -> error 103
edge 0 1099511627776 0 -1099511627776 -> ok
edge 1099511627776 2 1 1099511627776 -> ok
unedge 9 -> error 102
weight 9 1099511627777 -> error 102
weight 13 1099511627777 -> error 1
weight 13 5 -> ok
edges -> edges 0:0-1099511627776:-1099511627776 11:1-2:4 12:2-3:7 13:1-3:5 14:3-4:2 1099511627776:1-2:1099511627776
forest -> forest 0 11 13 14
bridges -> bridges 0 14
around 4 -> around 1 2 3 4
around 0 -> around 0 1099511627776
around 5 -> around 5
around 9 -> error 102
around -1 -> error 102
unedge 14 -> ok
unvertex 4 -> ok
members few -> members 1 5
around 4 -> error 102
bridges -> bridges 0
around 3 -> around 1 2 3
`)
}

func TestSets(t *testing.T) {
	follow(t, docGraph+`
set A -> error 90
set in -> error 90
set abcdefghijklm -> error 90
set abcdefghijklmnopqrst -> error 90
set few -> error 91
set abcdefghijkl -> ok
unset A -> error 93
unset many -> error 93
put many 9 -> error 93
put few 9 -> error 102
put few -1 -> error 102
put few 2 -> ok
put few 2 -> ok
take many 9 -> error 93
take few 9 -> error 102
take few 1 -> ok
take few 1 -> ok
members few -> members 2 4 5
members many -> error 93
members A -> error 93
members abcdefghijkl -> members
ask sum v in few: value(v) -> int 110 *
unset few -> ok
members few -> error 93
ask sum v in few: value(v) -> fault 5 *
put few 1 -> error 93
set few -> ok
members few -> members
`)
	var b strings.Builder
	for i := range 16 {
		fmt.Fprintf(&b, "set a%d -> ok\n", i)
	}
	follow(t, "graph 1 1 -> ok\n"+b.String()+"set a1 -> error 91\nset A -> error 90\nset b -> error 92\nunset a1 -> ok\nset b -> ok\nset a1 -> error 92")
}

// Fuel is 100000 at the beginning, below 0 counts as 0, above MaxFuel as that, and is the same for both.
func TestFuel(t *testing.T) {
	follow(t, docGraph+`
ask 1 + 2 -> int 3 4
fuel 4 -> ok
ask 1 + 2 -> int 3 4
mean 1 + 2 -> int 3 3
fuel 3 -> ok
ask 1 + 2 -> fault 6 3
mean 1 + 2 -> int 3 3
fuel 2 -> ok
ask 1 + 2 -> fault 6 2
mean 1 + 2 -> fault 6 2
fuel 0 -> ok
ask 1 + 2 -> fault 6 0
mean 1 + 2 -> fault 6 0
fuel -1 -> ok
ask 1 + 2 -> fault 6 0
mean 1 + 2 -> fault 6 0
fuel -4611686018427387904 -> ok
ask 1 -> fault 6 0
fuel 4611686018427387903 -> ok
ask 1 + 2 -> int 3 4
mean 1 + 2 -> int 3 3
`)
	var b strings.Builder
	for i := range 32 {
		fmt.Fprintf(&b, "vertex %d 0 -> ok\n", i)
	}
	long := "sum a in vertices: sum b in vertices: sum c in vertices: sum d in vertices: 1"
	b.WriteString("ask # -> fault 6 100000\nmean # -> fault 6 100000\nfuel 100001 -> ok\nask # -> fault 6 100001\nmean # -> fault 6 100001\nfuel 1000000 -> ok\nask # -> fault 6 1000000\nmean # -> fault 6 1000000\nfuel 1000001 -> ok\nask # -> fault 6 1000000\nmean # -> fault 6 1000000\nfuel 4611686018427387903 -> ok\nask # -> fault 6 1000000\nmean # -> fault 6 1000000\n")
	follow(t, "graph 32 0 -> ok\n"+strings.ReplaceAll(b.String(), "#", long))
}

// Passes are none at the beginning and of `-`; ask, code and text go by them, mean does not.
func TestPasses(t *testing.T) {
	text := "sum v in vertices: size(@1) * (2 + 3)"
	measures := func(passes ...int) string {
		q, _, _ := engine.Compile(text, passes)
		return fmt.Sprintf("words %d stack %d rounds %d bound %d sum %s", len(q.Code().Words), q.Limits().Stack, q.Limits().Rounds, q.Bound(5), sumOf(t, text, passes...))
	}
	lines := docGraph
	steps := map[string]bool{}
	for _, list := range [][]int{nil, {1}, {3}, {1, 3}, {4}, nil, {1, 2, 3, 4, 1, 2, 3, 4}, nil} {
		digits := strings.Trim(strings.ReplaceAll(fmt.Sprint(list), " ", ""), "[]")
		if digits == "" {
			digits = "-"
		}
		lines += fmt.Sprintf("passes %s -> ok\ncode %s -> %s\ntext %s -> %s\nask %s -> int 100 *\nmean %s -> int 100 32\n", digits, text, measures(list...), text, text, text, text)
		steps[measures(list...)] = true
	}
	follow(t, lines)
	if len(steps) < 4 {
		t.Errorf("the passes make too little of a difference: %v", steps)
	}
	follow(t, docGraph+"code "+text+" -> "+measures()+"\npasses 13 -> ok\npasses - -> ok\ncode "+text+" -> "+measures())
	follow(t, `
graph 1 1 -> ok
passes 0 -> ok
ask 1 -> error 220 at 0
ask 1 + -> error 120 at 3
mean 1 -> int 1 1
passes 12345 -> ok
ask 1 -> error 220 at 4
code 1 -> error 220 at 4
text 1 -> error 220 at 4
text 1 + true -> error 131 at 4
passes 111111111 -> ok
ask 1 -> error 220 at 8
passes 111111115 -> ok
ask 1 -> error 220 at 8
mean 1 -> int 1 1
passes 11111111 -> ok
ask 1 -> int 1 2
`)
}

// Code's line goes by how many vertices there are, and tells a sum of 32 bits.
func TestCode(t *testing.T) {
	deep := "sum a in vertices: sum b in vertices: sum c in vertices: sum d in vertices: 1"
	q, _, _ := engine.Compile(deep, nil)
	head := fmt.Sprintf("words %d stack %d rounds 4 bound ", len(q.Code().Words), q.Limits().Stack)
	lines := "code # -> " + head + fmt.Sprint(q.Bound(0)) + " sum !\ngraph 64 0 -> ok\ncode # -> " + head + fmt.Sprint(q.Bound(0)) + " sum !\n"
	for i := range 50 {
		lines += fmt.Sprintf("vertex %d 0 -> ok\ncode # -> %s%d sum !\n", i, head, q.Bound(i+1))
	}
	lines += "unvertex 0 -> ok\ncode # -> " + head + fmt.Sprint(q.Bound(49)) + " sum !\n"
	follow(t, strings.NewReplacer("#", deep, "!", sumOf(t, deep)).Replace(lines))
	high, low := 0, 0
	for i := range 64 {
		text := fmt.Sprint(i)
		follow(t, "code "+text+" -> words 2 stack 1 rounds 0 bound 2 sum "+sumOf(t, text))
		if len(sumOf(t, text)) == 10 {
			high++
		} else {
			low++
		}
	}
	if high == 0 || low == 0 {
		t.Error(high, low)
	}
}

func TestText(t *testing.T) {
	follow(t, `
text   ( (1+2) )*size( (@1) ) -> (1 + 2) * size(@1)
passes 1 -> ok
text 1 + 2 * 3 -> 1 + 2 * 3
text all v in{@1,@2}:v=@1 or true -> all v in {@1, @2}: v = @1 or true
text a -> error 130 at 0
text 07 -> error 111 at 0
text A -> error 112 at 0
text ((((((((((((((((((((((((((((((((((((((((((((((((((((((((((((((((( -> error 121 at 64
text 1 = true -> error 131 at 4
`)
	long := strings.TrimSuffix(strings.Repeat("1+", 600), "+")
	follow(t, "text "+long+" -> error 122 at 0\ntext "+long[:999]+" -> "+strings.ReplaceAll(long[:999], "+", " + "))
}
