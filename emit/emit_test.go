package emit_test

import (
	"fmt"
	"math"
	"testing"

	"isthmus/api"
)

func TestE1Examples(t *testing.T) {
	wantText(t, "1 + 2", "Const 0 1, Const 1 1, Add, Halt; consts [1 2]")
	wantText(t, "true and false", "Const 0 2, False 4, Const 1 2, Jump 5, Const 1 2, Halt; consts [1 0]")
	wantText(t, "count v in few: v = @1", "Named, Const 0 1, Next 10, Var, Vertex 1, Eq 0 3, False 2, Const 1 1, Add, Jump 2, Halt; consts [0 1]; names [few]")
}

// Each row of the chapter's table, written out by hand.
func TestE1EachPart(t *testing.T) {
	for query, want := range map[string]string{
		"7": "Const 0 1, Halt; consts [7]", "true": "Const 0 2, Halt; consts [1]", "false": "Const 0 2, Halt; consts [0]", "@5": "Vertex, Halt; consts [5]",
		"-7": "Const 0 1, Neg, Halt; consts [7]", "not true": "Const 0 2, Not, Halt; consts [1]",
		"8 + 9": "Const 0 1, Const 1 1, Add, Halt; consts [8 9]", "8 - 9": "Const 0 1, Const 1 1, Sub, Halt; consts [8 9]", "8 * 9": "Const 0 1, Const 1 1, Mul, Halt; consts [8 9]", "8 / 9": "Const 0 1, Const 1 1, Div, Halt; consts [8 9]", "8 % 9": "Const 0 1, Const 1 1, Rem, Halt; consts [8 9]",
		"8 = 9": "Const 0 1, Const 1 1, Eq 0 1, Halt; consts [8 9]", "true = false": "Const 0 2, Const 1 2, Eq 0 2, Halt; consts [1 0]", "@8 = @9": "Vertex, Vertex 1, Eq 0 3, Halt; consts [8 9]",
		"8 != 9": "Const 0 1, Const 1 1, Eq 0 1, Not, Halt; consts [8 9]", "true != false": "Const 0 2, Const 1 2, Eq 0 2, Not, Halt; consts [1 0]", "@8 != @9": "Vertex, Vertex 1, Eq 0 3, Not, Halt; consts [8 9]",
		"8 < 9": "Const 0 1, Const 1 1, Less, Halt; consts [8 9]", "8 <= 9": "Const 0 1, Const 1 1, Less 0 1, Halt; consts [8 9]",
		"true and true": "Const 0 2, False 4, Const 0 2, Jump 5, Const 1 2, Halt; consts [1 0]", "false or false": "Const 0 2, True 4, Const 0 2, Jump 5, Const 1 2, Halt; consts [0 1]",
		"if true then 3 else 4":            "Const 0 2, False 4, Const 1 1, Jump 5, Const 2 1, Halt; consts [1 3 4]",
		"if 1 = 2 then @3 else rep(@4)":    "Const 0 1, Const 1 1, Eq 0 1, False 6, Vertex 2, Jump 8, Vertex 3, Call 10, Halt; consts [1 2 3 4]",
		"all v in vertices: v = @7":        "All, Next 9, Var, Vertex, Eq 0 3, True 1, Close, Const 1 2, Jump 10, Const 2 2, Halt; consts [7 0 1]",
		"some v in vertices: v = @7":       "All, Next 9, Var, Vertex, Eq 0 3, False 1, Close, Const 1 2, Jump 10, Const 2 2, Halt; consts [7 1 0]",
		"count v in vertices: v = @7":      "All, Const 0 1, Next 10, Var, Vertex 1, Eq 0 3, False 2, Const 2 1, Add, Jump 2, Halt; consts [0 7 1]",
		"sum v in vertices: 7":             "All, Const 0 1, Next 6, Const 1 1, Add, Jump 2, Halt; consts [0 7]",
		"min v in vertices: 7":             "All, Const 0 1, Const 0 2, Next 7, Const 1 1, Best, Jump 3, Some, Halt; consts [0 7]",
		"max v in vertices: 7":             "All, Const 0 1, Const 0 2, Next 7, Const 1 1, Best 1, Jump 3, Some, Halt; consts [0 7]",
		"sum v in few: 7":                  "Named, Const 0 1, Next 6, Const 1 1, Add, Jump 2, Halt; consts [0 7]; names [few]",
		"sum v in around(@3): 7":           "Vertex, Around, Const 1 1, Next 7, Const 2 1, Add, Jump 3, Halt; consts [3 0 7]",
		"sum v in {}: 7":                   "List, Const 0 1, Next 6, Const 1 1, Add, Jump 2, Halt; consts [0 7]",
		"sum v in {@3}: 7":                 "Vertex, List 1, Const 1 1, Next 7, Const 2 1, Add, Jump 3, Halt; consts [3 0 7]",
		"sum v in {@3, @4, @3}: 7":         "Vertex, Vertex 1, Vertex, List 3, Const 2 1, Next 9, Const 3 1, Add, Jump 5, Halt; consts [3 4 0 7]",
		"1 - (2 - 3) - 4":                  "Const 0 1, Const 1 1, Const 2 1, Sub, Sub, Const 3 1, Sub, Halt; consts [1 2 3 4]",
		"true and false or not true":       "Const 0 2, False 4, Const 1 2, Jump 5, Const 1 2, True 9, Const 0 2, Not, Jump 10, Const 0 2, Halt; consts [1 0]",
		"sum v in a: sum w in {v, @2}: 10": "Named, Const 0 1, Next 13, Var, Vertex 1, List 2, Const 0 1, Next 11, Const 2 1, Add, Jump 7, Add, Jump 2, Halt; consts [0 2 10]; names [a]",
	} {
		wantText(t, query, want)
	}
	for i, name := range []string{"connected", "block", "bottleneck"} {
		wantText(t, name+"(@8, @9)", fmt.Sprintf("Vertex, Vertex 1, Call %d, Halt; consts [8 9]", api.CallConnected+i))
	}
	for i, name := range []string{"size", "total", "least", "most", "value", "degree", "rep"} {
		wantText(t, name+"(@8)", fmt.Sprintf("Vertex, Call %d, Halt; consts [8]", api.CallSize+i))
	}
}

// What OpEq is told of both kids: the kind of whatever part stands there.
func TestE1Kinds(t *testing.T) {
	few := setName("few")
	kinds := map[int][]api.Node{
		api.KindInt:    {integer(1), of(api.ENeg, integer(1)), of(api.EAdd, integer(1), integer(2)), of(api.ESub, integer(1), integer(2)), of(api.EMul, integer(1), integer(2)), of(api.EDiv, integer(1), integer(2)), of(api.ERem, integer(1), integer(2)), call(api.CallBottleneck, vertex(1), vertex(2)), quant(api.QuantCount, few, boolean(1)), quant(api.QuantSum, few, integer(1)), quant(api.QuantMin, few, integer(1)), quant(api.QuantMax, few, integer(1))},
		api.KindBool:   {boolean(0), of(api.ENot, boolean(1)), of(api.EEq, integer(1), integer(2)), of(api.ENe, vertex(1), vertex(2)), of(api.ELess, integer(1), integer(2)), of(api.EAtMost, integer(1), integer(2)), of(api.EAnd, boolean(1), boolean(1)), of(api.EOr, boolean(1), boolean(1)), call(api.CallConnected, vertex(1), vertex(2)), call(api.CallBlock, vertex(1), vertex(2)), quant(api.QuantAll, few, boolean(1)), quant(api.QuantSome, few, boolean(1))},
		api.KindVertex: {vertex(1), variable(0), call(api.CallRep, vertex(1))},
	}
	for which := api.CallSize; which <= api.CallDegree; which++ {
		kinds[api.KindInt] = append(kinds[api.KindInt], call(which, vertex(1)))
	}
	for kind, list := range kinds {
		for _, n := range list {
			ways := []api.Node{n, cell(0, n), of(api.EIf, boolean(1), n, n), cell(1, of(api.EIf, boolean(0), cell(0, n), n)), of(api.EIf, of(api.EEq, integer(1), integer(2)), n, cell(0, cell(1, n)))}
			for _, x := range ways {
				for _, eq := range []int{api.EEq, api.ENe} {
					c, err := emitted(t, made(quant(api.QuantAll, all, of(eq, x, n)), 1, 1))
					last := 0
					for _, word := range c.Words {
						if op, _, b := fields(word); op == api.OpEq {
							last = b
						}
					}
					if err != api.OK || last != kind {
						t.Errorf("%s: %d, %s", spelled(x), err, brief(c))
					}
				}
			}
		}
	}
}

// Numbers and names stand in the code once each, in the order in which words need them, whatever kind a number is of.
func TestE1ConstsAndNames(t *testing.T) {
	for query, want := range map[string]string{
		"3 + 1 + 2 + 1 + 3":                 "Const 0 1, Const 1 1, Add, Const 2 1, Add, Const 1 1, Add, Const 0 1, Add, Halt; consts [3 1 2]",
		"@1 = @0 and true and 1 = 0":        "Vertex, Vertex 1, Eq 0 3, False 6, Const 0 2, Jump 7, Const 1 2, False 12, Const 0 1, Const 1 1, Eq 0 1, Jump 13, Const 1 2, Halt; consts [1 0]",
		"(sum v in b: 1) + (sum v in a: 1)": "Named, Const 0 1, Next 6, Const 1 1, Add, Jump 2, Named 1, Const 0 1, Next 12, Const 1 1, Add, Jump 8, Add, Halt; consts [0 1]; names [b a]",
		"(sum v in b: 1) + (sum v in b: 1)": "Named, Const 0 1, Next 6, Const 1 1, Add, Jump 2, Named, Const 0 1, Next 12, Const 1 1, Add, Jump 8, Add, Halt; consts [0 1]; names [b]",
		"sum v in b: sum v in a: 0":         "Named, Const 0 1, Next 11, Named 1, Const 0 1, Next 9, Const 0 1, Add, Jump 5, Add, Jump 2, Halt; consts [0]; names [b a]",
	} {
		wantText(t, query, want)
	}
	for _, n := range []int{math.MinInt, -1 << 40, -1, 0, 1, 2, 1 << 28, 1 << 40, math.MaxInt} {
		wantCode(t, made(integer(n)), fmt.Sprintf("Const 0 1, Halt; consts [%d]", n))
		wantCode(t, made(of(api.ESub, integer(5), integer(n))), fmt.Sprintf("Const 0 1, Const 1 1, Sub, Halt; consts [5 %d]", n))
		wantCode(t, made(of(api.ESub, integer(n), integer(n))), fmt.Sprintf("Const 0 1, Const 0 1, Sub, Halt; consts [%d]", n))
		if n >= 0 {
			wantCode(t, made(vertex(n)), fmt.Sprintf("Vertex, Halt; consts [%d]", n))
		}
	}
}

func sum(set, body api.Node) api.Node { return quant(api.QuantSum, set, body) }

// What cells are turned into, and the kinds of all that a plan has.
func TestE1Cells(t *testing.T) {
	value := call(api.CallValue, variable(0))
	for _, x := range []struct {
		plan api.Plan
		want string
	}{
		{made(cell(0, integer(7)), 0), "Fetch 0 3, Const 0 1, Keep, Halt; consts [7]; cells [1]"},
		{made(cell(0, boolean(1)), 0), "Fetch 0 3, Const 0 2, Keep, Halt; consts [1]; cells [2]"},
		{made(cell(0, vertex(7)), 0), "Fetch 0 3, Vertex, Keep, Halt; consts [7]; cells [3]"},
		{made(cell(2, vertex(7)), 0, 0, 0, 0), "Fetch 2 3, Vertex, Keep 2, Halt; consts [7]; cells [1 1 3 1]"},
		{made(integer(7), 0, 1, 2, 3, 4), "Const 0 1, Halt; consts [7]; cells [1 1 1 1 1]"},
		{made(cell(1, cell(0, boolean(0))), 0, 0), "Fetch 1 5, Fetch 0 4, Const 0 2, Keep, Keep 1, Halt; consts [0]; cells [2 2]"},
		{made(of(api.EEq, cell(0, vertex(7)), cell(0, vertex(7))), 0), "Fetch 0 3, Vertex, Keep, Fetch 0 6, Vertex, Keep, Eq 0 3, Halt; consts [7]; cells [3]"},
		{made(of(api.EIf, cell(1, boolean(1)), cell(2, integer(8)), cell(0, integer(9))), 0, 0, 0), "Fetch 1 3, Const 0 2, Keep 1, False 8, Fetch 2 7, Const 1 1, Keep 2, Jump 11, Fetch 0 11, Const 2 1, Keep, Halt; consts [1 8 9]; cells [1 2 1]"},
		{made(sum(all, cell(0, value)), 1), "All, Const 0 1, Next 10, Clear, Fetch 0 8, Var, Call 8, Keep, Add, Jump 2, Halt; consts [0]; cells [1]"},
		{made(sum(all, cell(0, integer(7))), 0), "All, Const 0 1, Next 8, Fetch 0 6, Const 1 1, Keep, Add, Jump 2, Halt; consts [0 7]; cells [1]"},
		{made(cell(0, sum(all, value)), 0), "Fetch 0 9, All, Const 0 1, Next 8, Var, Call 8, Add, Jump 3, Keep, Halt; consts [0]; cells [1]"},
		{made(sum(of(api.ESetAround, cell(0, vertex(7))), integer(8)), 0), "Fetch 0 3, Vertex, Keep, Around, Const 1 1, Next 9, Const 2 1, Add, Jump 5, Halt; consts [7 0 8]; cells [3]"},
	} {
		wantCode(t, x.plan, x.want)
	}
}

// A quantifier clears the cells that hang on it last, rising: those around which as many others are, wherever a cell stands or if it stands nowhere; a quantifier in a set is not in the one whose set that is.
func TestE1Clears(t *testing.T) {
	few := setName("few")
	for _, x := range []struct {
		plan api.Plan
		want string
	}{
		{made(sum(few, integer(7)), 1, 0, 2, 1, 3, 4, 1), "Named, Const 0 1, Next 9, Clear, Clear 3, Clear 6, Const 1 1, Add, Jump 2, Halt; consts [0 7]; names [few]; cells [1 1 1 1 1 1 1]"},
		{made(quant(api.QuantAll, few, boolean(1)), 2, 1, 1), "Named, Next 9, Clear 1, Clear 2, Const 0 2, True 1, Close, Const 1 2, Jump 10, Const 0 2, Halt; consts [1 0]; names [few]; cells [1 1 1]"},
		{made(quant(api.QuantSome, few, boolean(1)), 2, 1, 1), "Named, Next 9, Clear 1, Clear 2, Const 0 2, False 1, Close, Const 0 2, Jump 10, Const 1 2, Halt; consts [1 0]; names [few]; cells [1 1 1]"},
		{made(quant(api.QuantCount, few, boolean(1)), 2, 1, 1), "Named, Const 0 1, Next 10, Clear 1, Clear 2, Const 1 2, False 2, Const 1 1, Add, Jump 2, Halt; consts [0 1]; names [few]; cells [1 1 1]"},
		{made(quant(api.QuantMin, few, integer(1)), 2, 1, 1), "Named, Const 0 1, Const 0 2, Next 9, Clear 1, Clear 2, Const 1 1, Best, Jump 3, Some, Halt; consts [0 1]; names [few]; cells [1 1 1]"},
		{made(quant(api.QuantMax, few, integer(1)), 2, 1, 1), "Named, Const 0 1, Const 0 2, Next 9, Clear 1, Clear 2, Const 1 1, Best 1, Jump 3, Some, Halt; consts [0 1]; names [few]; cells [1 1 1]"},
		{made(sum(all, sum(all, sum(all, sum(all, integer(7))))), 4, 3, 2, 1, 0, 1, 2, 3, 4),
			"All, Const 0 1, Next 29, Clear 3, Clear 5, All, Const 0 1, Next 27, Clear 2, Clear 6, All, Const 0 1, Next 25, Clear 1, Clear 7, All, Const 0 1, Next 23, Clear, Clear 8, Const 1 1, Add, Jump 17, Add, Jump 12, Add, Jump 7, Add, Jump 2, Halt; consts [0 7]; cells [1 1 1 1 1 1 1 1 1]"},
		{made(sum(of(api.ESetAround, of(api.EIf, quant(api.QuantAll, all, boolean(1)), vertex(2), vertex(3))), integer(4)), 1, 2),
			"All, Next 8, Clear, Const 0 2, True 1, Close, Const 1 2, Jump 9, Const 0 2, False 12, Vertex 2, Jump 13, Vertex 3, Around, Const 1 1, Next 20, Clear, Const 4 1, Add, Jump 15, Halt; consts [1 0 2 3 4]; cells [1 1]"},
		{made(sum(all, sum(of(api.ESetList, variable(0)), integer(4))), 2, 1), "All, Const 0 1, Next 14, Clear 1, Var, List 1, Const 0 1, Next 12, Clear, Const 1 1, Add, Jump 7, Add, Jump 2, Halt; consts [0 4]; cells [1 1]"},
	} {
		wantCode(t, x.plan, x.want)
	}
}

// Variables are those of the rounds around them, from the outermost on.
func TestE1Variables(t *testing.T) {
	for around := 1; around <= 4; around++ {
		for n := range around {
			p := made(chain(around, of(api.EEq, variable(n), vertex(7)), func(n api.Node) api.Node { return quant(api.QuantAll, all, n) }))
			c, err := emitted(t, p)
			if err != api.OK {
				t.Fatal(err)
			}
			if op, a, b := fields(c.Words[2*around]); op != api.OpVar || a != n || b != 0 {
				t.Errorf("%d of %d: %s", n, around, brief(c))
			}
		}
	}
	wantText(t, "all v in a: some w in around(v): connected(w, v)", "Named, Next 17, Var, Around, Next 12, Var 1, Var, Call 1, False 4, Close, Const 0 2, Jump 13, Const 1 2, True 1, Close, Const 1 2, Jump 18, Const 0 2, Halt; consts [1 0]; names [a]")
}

// smallKids are lists of up to three kids of all sorts.
func smallKids() [][]api.Node {
	leaves := []api.Node{integer(1), boolean(0), vertex(2), variable(0), cell(0, integer(5)), cell(1, vertex(0)), quant(api.QuantAll, all, boolean(1)), all, of(api.ESetList)}
	kids := [][]api.Node{nil}
	for _, a := range leaves {
		kids = append(kids, []api.Node{a})
		for _, b := range leaves {
			kids = append(kids, []api.Node{a, b})
			for _, c := range leaves {
				kids = append(kids, []api.Node{a, b, c})
			}
		}
	}
	return kids
}

// All parts of all kinds and numbers with all sorts of kids: by themselves, in a body, and as a set.
func TestE1SmallPlans(t *testing.T) {
	right, wrong := 0, 0
	for kind := -1; kind <= 28; kind++ {
		for n := -1; n <= 11; n++ {
			for _, kids := range smallKids() {
				x := api.Node{Kind: kind, N: n, Kids: kids}
				for _, root := range []api.Node{x, quant(api.QuantCount, all, x), sum(all, x), quant(api.QuantAll, all, of(api.EEq, x, variable(0))), quant(api.QuantAll, all, quant(api.QuantAll, x, boolean(1)))} {
					if _, err := emitted(t, made(root, 0, 0, 1, 2)); err == api.OK {
						right++
					} else {
						wrong++
					}
				}
			}
		}
	}
	if right < 400 || wrong < 100000 {
		t.Errorf("%d, %d", right, wrong)
	}
}

func TestE1DrawnPlans(t *testing.T) {
	many := map[api.Errno]int{}
	for _, d := range []*drawn{drawing(0, 0, 0), drawing(15, 0, 0), drawing(30, 20, 0), drawing(10, 5, 2)} {
		for i := range 4000 {
			_, err := emitted(t, d.plan(1+i%3, 3+i%7))
			many[err]++
		}
	}
	if many[api.OK] < 12000 || many[api.ErrPlanForm] < 400 {
		t.Errorf("%v", many)
	}
}

func TestE1WrongPlans(t *testing.T) {
	one, yes := integer(1), boolean(1)
	size := call(api.CallSize, vertex(1))
	for _, p := range []api.Plan{
		{}, made(all), made(of(api.EAdd, one)), made(of(api.EAdd, one, yes)), made(of(api.EAdd, one, one, one)), made(of(api.ENot)), made(boolean(2)), made(vertex(-1)), made(variable(0)), made(variable(-1)), made(of(api.EIf, yes, one, yes)), made(of(api.EEq, one, vertex(1))),
		made(call(0, vertex(1))), made(call(11, vertex(1))), made(call(api.CallSize)), made(call(api.CallSize, vertex(1), vertex(1))), made(call(api.CallSize, one)), made(call(api.CallConnected, vertex(1))), made(call(api.CallSize, variable(0))),
		made(quant(0, all, yes)), made(quant(7, all, one)), made(sum(all, all)), made(quant(api.QuantSum, all)), made(quant(api.QuantSum, all, size, size)), made(sum(size, size)), made(quant(api.QuantAll, all, size)), made(sum(all, call(api.CallSize, variable(1)))), made(sum(setName("in"), size)), made(sum(setName(""), size)), made(sum(of(api.ESetAround, variable(0)), size)),
		made(cell(0, one)), made(cell(1, one), 0), made(cell(-1, one), 0), made(cell(0, one), 1), made(cell(0, one), -1), made(cell(0, one), 5), made(one, 5), made(one, -1), made(cell(0), 0), made(cell(0, all), 0), made(sum(all, cell(0, call(api.CallSize, variable(0)))), 0),
		made(sum(all, of(api.EAdd, cell(0, size), cell(0, one))), 0), made(one, make([]int, 257)...), made(chain(5, size, func(n api.Node) api.Node { return sum(all, n) })),
		made(api.Node{Kind: api.EInt, Name: "v"}), made(api.Node{Kind: api.EName, Name: "v"}), made(api.Node{Kind: 27}), made(api.Node{Kind: -1}),
	} {
		wantError(t, p, api.ErrPlanForm)
	}
}

// Plans that are within themselves, or have more parts than there may be; some would be too long as well.
func TestE1PlansWithoutEnd(t *testing.T) {
	kids := make([]api.Node, 1)
	kids[0] = call(api.CallRep)
	kids[0].Kids = kids
	wide := integer(0)
	for range 60 {
		wide = of(api.EAdd, wide, wide)
	}
	bodies := []api.Node{all, {Kind: api.EQuant, N: api.QuantSum}}
	bodies[1].Kids = bodies
	rep := func(n api.Node) api.Node { return call(api.CallRep, n) }
	for _, root := range []api.Node{kids[0], wide, bodies[1], chain(4096, vertex(1), rep), sum(all, call(api.CallSize, kids[0])), sum(all, wide), leaning(2049), sum(list(4094), integer(1))} {
		wantError(t, made(root), api.ErrPlanForm)
	}
}
