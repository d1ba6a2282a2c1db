package fold_test

import (
	"math"
	"slices"
	"testing"

	"isthmus/api"
	"isthmus/fold"
	"isthmus/plan"
)

func wantTexts(t *testing.T, from, to string) {
	t.Helper()
	wantFolded(t, planOf(t, from), planOf(t, to))
}

func TestF1Examples(t *testing.T) {
	for _, x := range [][2]string{
		{"1 + 2 * 3", "7"}, {"9223372036854775807 + 1", "9223372036854775807 + 1"}, {"0 + size(@1)", "size(@1)"}, {"1 / 0", "1 / 0"},
		{"true and connected(@1, @2)", "connected(@1, @2)"}, {"connected(@1, @2) and false", "connected(@1, @2) and false"}, {"false and 1 / 0 = 1", "false"},
		{"all v in {}: value(v) = 1", "true"}, {"min v in {}: 1", "min v in {}: 1"}, {"all v in few: true", "all v in few: true"}, {"not not not true", "false"},
	} {
		wantTexts(t, x[0], x[1])
	}
}

// Each line of the table, and what it leaves alone.
func TestF1Rules(t *testing.T) {
	for from, to := range map[string]string{
		"not true": "false", "not false": "true", "not not block(@1, @2)": "block(@1, @2)", "not not not block(@1, @2)": "not block(@1, @2)", "not block(@1, @2)": "not block(@1, @2)",
		"7 + 2": "9", "7 - 2": "5", "7 * 2": "14", "7 / 2": "3", "7 % 2": "1", "7 % 0": "7 % 0", "0 * size(@1)": "0 * size(@1)", "size(@1) * 0": "size(@1) * 0",
		"size(@1) + 0": "size(@1)", "0 + size(@1)": "size(@1)", "size(@1) + 1": "size(@1) + 1", "1 + size(@1)": "1 + size(@1)",
		"size(@1) - 0": "size(@1)", "0 - size(@1)": "0 - size(@1)", "size(@1) - 1": "size(@1) - 1",
		"1 * size(@1)": "size(@1)", "size(@1) * 1": "size(@1)", "size(@1) * 2": "size(@1) * 2", "2 * size(@1)": "2 * size(@1)",
		"size(@1) / 1": "size(@1)", "1 / size(@1)": "1 / size(@1)", "size(@1) / 2": "size(@1) / 2", "size(@1) / 0": "size(@1) / 0", "0 / size(@1)": "0 / size(@1)", "size(@1) % 1": "size(@1) % 1", "1 % size(@1)": "1 % size(@1)", "size(@1) % 0": "size(@1) % 0",
		"size(@1) - size(@1)": "size(@1) - size(@1)", "size(@1) / size(@1)": "size(@1) / size(@1)", "size(@1) = size(@1)": "size(@1) = size(@1)",
		"1 = 1": "true", "1 = 2": "false", "1 != 1": "false", "1 != 2": "true", "1 < 1": "false", "1 < 2": "true", "2 < 1": "false", "1 <= 1": "true", "1 <= 2": "true", "2 <= 1": "false",
		"true = true": "true", "true = false": "false", "false = false": "true", "true != true": "false", "true != false": "true", "false != false": "false",
		"@1 = @1": "@1 = @1", "@1 != @2": "@1 != @2", "true = block(@1, @2)": "true = block(@1, @2)", "block(@1, @2) != false": "block(@1, @2) != false", "1 = size(@1)": "1 = size(@1)", "size(@1) <= 1": "size(@1) <= 1", "1 < size(@1)": "1 < size(@1)",
		"true and block(@1, @2)": "block(@1, @2)", "false and block(@1, @2)": "false", "block(@1, @2) and true": "block(@1, @2)", "block(@1, @2) and false": "block(@1, @2) and false",
		"true or block(@1, @2)": "true", "false or block(@1, @2)": "block(@1, @2)", "block(@1, @2) or true": "block(@1, @2) or true", "block(@1, @2) or false": "block(@1, @2)",
		"true and true": "true", "true and false": "false", "false and true": "false", "false and false": "false", "true or true": "true", "true or false": "true", "false or true": "true", "false or false": "false",
		"if true then size(@1) else 2": "size(@1)", "if false then size(@1) else 2": "2", "if block(@1, @2) then 1 else 1": "if block(@1, @2) then 1 else 1", "if true then @1 else @2": "@1", "if block(@1, @2) then true else false": "if block(@1, @2) then true else false",
		"all v in {}: false": "true", "some v in {}: true": "false", "count v in {}: true": "0", "sum v in {}: 1": "0", "min v in {}: 1": "min v in {}: 1", "max v in {}: 1": "max v in {}: 1",
		"all v in vertices: true": "true", "some v in vertices: false": "false", "count v in vertices: false": "0", "sum v in vertices: 0": "sum v in vertices: 0", "min v in vertices: 0": "min v in vertices: 0", "max v in vertices: 0": "max v in vertices: 0",
		"all v in vertices: false": "all v in vertices: false", "some v in vertices: true": "some v in vertices: true", "count v in vertices: true": "count v in vertices: true", "all v in vertices: value(v) = 1": "all v in vertices: value(v) = 1",
		"all v in few: true": "all v in few: true", "some v in few: false": "some v in few: false", "count v in few: false": "count v in few: false", "all v in around(@1): true": "all v in around(@1): true", "some v in {@1}: false": "some v in {@1}: false", "count v in {@1}: false": "count v in {@1}: false", "all v in {@1}: true": "all v in {@1}: true", "sum v in {@1}: 0": "sum v in {@1}: 0",
	} {
		wantTexts(t, from, to)
	}
}

// Kids come first, in sets and bodies and calls too; and what became of them counts.
func TestF1Kids(t *testing.T) {
	for from, to := range map[string]string{
		"size(if 1 = 1 then @1 else @2)":                               "size(@1)",
		"connected(if true then @1 else @2, if false then @1 else @2)": "connected(@1, @2)",
		"min v in {if not true then @1 else @2, @3}: value(v) + 1 * 0": "min v in {@2, @3}: value(v)",
		"max v in around(if 1 < 2 then @1 else @2): 0 + value(v) * 1":  "max v in around(@1): value(v)",
		"all v in vertices: all w in {}: v = w":                        "true",
		"some v in vertices: not (all w in vertices: true or v = w)":   "false",
		"count v in vertices: some w in vertices: false and v = w":     "0",
		"all v in vertices: some w in few: 2 - 2 < 1 and v = w":        "all v in vertices: some w in few: v = w",
		"if size(@1) < 2 * 3 then 1 + 1 else 2 + 2":                    "if size(@1) < 6 then 2 else 4",
		"1 + size(@1) + 2": "1 + size(@1) + 2",
		"size(@1) + 1 + 2": "size(@1) + 1 + 2",
		"1 + 2 + size(@1)": "3 + size(@1)",
		"size(@1) * (1 + (sum v in {}: 1 / 0)) + (3 - 1 * 3)":           "size(@1)",
		"9223372036854775807 + 1 - 1":                                   "9223372036854775807 + 1 - 1",
		"(9223372036854775807 + 1) * 0":                                 "(9223372036854775807 + 1) * 0",
		"0 + 1 / 0 * 1":                                                 "1 / 0",
		"block(@1, @2) and not false or false":                          "block(@1, @2)",
		"not (true and not (false or block(@1, @2)))":                   "block(@1, @2)",
		"(if true then false else true) = (true and false)":             "true",
		"all v in vertices: if size(v) = size(v) then true else true":   "all v in vertices: if size(v) = size(v) then true else true",
		"count v in vertices: (all w in {}: w = v) and (1 < 2) = false": "0",
	} {
		wantTexts(t, from, to)
	}
}

// Numbers that no query has, at the ends of 64 bits.
func TestF1Numbers(t *testing.T) {
	least, most := math.MinInt, math.MaxInt
	two := func(kind, a, b int) api.Node { return of(kind, integer(a), integer(b)) }
	for _, x := range []struct{ from, to api.Node }{
		{of(api.ENeg, integer(3)), integer(-3)}, {of(api.ENeg, integer(-3)), integer(3)}, {of(api.ENeg, integer(0)), integer(0)}, {of(api.ENeg, integer(most)), integer(-most)}, {of(api.ENeg, integer(-most)), integer(most)},
		{of(api.ENeg, of(api.ENeg, integer(5))), integer(5)}, {of(api.ENeg, of(api.ENeg, of(api.ENeg, integer(5)))), integer(-5)},
		{two(api.EAdd, most, least), integer(-1)}, {two(api.EAdd, least, most), integer(-1)}, {two(api.EAdd, most-1, 1), integer(most)}, {two(api.EAdd, least+1, -1), integer(least)}, {two(api.EAdd, 0, least), integer(least)}, {two(api.EAdd, least, 0), integer(least)},
		{two(api.ESub, -1, least), integer(most)}, {two(api.ESub, -1, most), integer(least)}, {two(api.ESub, least, 0), integer(least)}, {two(api.ESub, least, least), integer(0)}, {two(api.ESub, 0, most), integer(-most)},
		{two(api.EMul, 1<<62, -2), integer(least)}, {two(api.EMul, -2, 1<<62), integer(least)}, {two(api.EMul, least, 1), integer(least)}, {two(api.EMul, 1, least), integer(least)}, {two(api.EMul, most, -1), integer(-most)}, {two(api.EMul, 0, least), integer(0)}, {two(api.EMul, 3037000499, 3037000499), integer(3037000499 * 3037000499)},
		{two(api.EDiv, least, 1), integer(least)}, {two(api.EDiv, least, least), integer(1)}, {two(api.EDiv, most, -1), integer(-most)}, {two(api.EDiv, -7, 2), integer(-3)}, {two(api.EDiv, 7, -2), integer(-3)}, {two(api.EDiv, least, most), integer(-1)}, {two(api.EDiv, 0, least), integer(0)},
		{two(api.ERem, least, -1), integer(0)}, {two(api.ERem, -7, 2), integer(-1)}, {two(api.ERem, 7, -2), integer(1)}, {two(api.ERem, most, least), integer(most)}, {two(api.ERem, least, most), integer(-1)},
		{two(api.ELess, least, most), boolean(1)}, {two(api.ELess, most, least), boolean(0)}, {two(api.EAtMost, most, least), boolean(0)}, {two(api.EEq, least, least), boolean(1)}, {two(api.ENe, most, least), boolean(1)},
	} {
		wantFolded(t, made(x.from), made(x.to))
	}
	for _, n := range []api.Node{
		of(api.ENeg, integer(least)), of(api.ENeg, call(api.CallSize, vertex(1))), of(api.ENeg, of(api.ENeg, call(api.CallSize, vertex(1)))), of(api.ENeg, of(api.ENeg, integer(least))),
		two(api.EAdd, most, 1), two(api.EAdd, 1, most), two(api.EAdd, least, -1), two(api.EAdd, -1, least), two(api.EAdd, most, most), two(api.EAdd, least, least),
		two(api.ESub, least, 1), two(api.ESub, most, -1), two(api.ESub, 0, least), two(api.ESub, most, least), two(api.ESub, least, most),
		two(api.EMul, least, -1), two(api.EMul, -1, least), two(api.EMul, 1<<62, 2), two(api.EMul, 2, 1<<62), two(api.EMul, 3037000500, 3037000500), two(api.EMul, least, least), two(api.EMul, most, most), two(api.EMul, 1<<32, 1<<32), two(api.EMul, 1<<33, 1<<31),
		two(api.EDiv, least, -1), two(api.EDiv, 0, 0), two(api.EDiv, 1, 0), two(api.EDiv, least, 0), two(api.ERem, 0, 0), two(api.ERem, 1, 0), two(api.ERem, least, 0),
	} {
		wantStays(t, made(n))
	}
}

// A cell that keeps a number or a truth is no longer there; all others stay, and so do the plan's Cells.
func TestF1Cells(t *testing.T) {
	size, value := call(api.CallSize, vertex(1)), call(api.CallValue, variable(0))
	few := setName("few")
	for _, x := range []struct{ from, to api.Plan }{
		{made(cell(0, integer(5)), 0), made(integer(5), 0)},
		{made(cell(0, boolean(0)), 0), made(boolean(0), 0)},
		{made(cell(0, boolean(1)), 0), made(boolean(1), 0)},
		{made(cell(1, cell(0, integer(5))), 0, 0), made(integer(5), 0, 0)},
		{made(of(api.EAdd, cell(0, integer(5)), cell(0, integer(5))), 0), made(integer(10), 0)},
		{made(of(api.EAdd, cell(0, of(api.EAdd, size, integer(0))), cell(0, of(api.EAdd, size, integer(0)))), 0), made(of(api.EAdd, cell(0, size), cell(0, size)), 0)},
		{made(of(api.EMul, cell(0, of(api.ESub, integer(3), integer(2))), cell(1, size)), 0, 0), made(cell(1, size), 0, 0)},
		{made(of(api.EIf, cell(0, boolean(1)), cell(1, size), cell(2, size)), 0, 0, 0), made(cell(1, size), 0, 0, 0)},
		{made(of(api.EAnd, cell(0, boolean(0)), of(api.EEq, cell(1, size), integer(1))), 0, 0), made(boolean(0), 0, 0)},
		{made(quant(api.QuantSum, few, of(api.EAdd, cell(0, of(api.EMul, value, integer(1))), cell(1, integer(0)))), 1, 1), made(quant(api.QuantSum, few, cell(0, value)), 1, 1)},
		{made(quant(api.QuantAll, all, cell(0, of(api.EEq, integer(1), integer(1)))), 0), made(boolean(1), 0)},
		{made(quant(api.QuantSum, of(api.ESetList), cell(0, value)), 1), made(integer(0), 1)},
		{made(integer(3), 0, 4, 2, 3, 1), made(integer(3), 0, 4, 2, 3, 1)},
	} {
		wantFolded(t, x.from, x.to)
	}
	for _, p := range []api.Plan{
		made(cell(0, size), 0), made(cell(0, vertex(1)), 0), made(cell(1, cell(0, size)), 0, 0), made(of(api.EEq, cell(0, vertex(1)), cell(0, vertex(1))), 0), made(quant(api.QuantSum, few, cell(0, value)), 1),
		made(quant(api.QuantAll, few, of(api.EEq, cell(0, variable(0)), vertex(1))), 1), made(cell(0, of(api.EDiv, integer(1), integer(0))), 0), made(cell(0, of(api.ENeg, integer(math.MinInt))), 0),
		made(of(api.ENot, cell(0, of(api.ENot, call(api.CallBlock, vertex(1), vertex(2))))), 0),
	} {
		wantStays(t, p)
	}
}

// What is not right is no plan that could be folded, however little is wrong with it, and wherever.
func TestF1WrongPlans(t *testing.T) {
	one, yes := integer(1), boolean(1)
	size := call(api.CallSize, vertex(1))
	for _, p := range []api.Plan{
		{}, made(all), made(of(api.EAdd, one)), made(of(api.EAdd, one, one, one)), made(of(api.EAdd, one, yes)), made(of(api.ENot, one)), made(of(api.ENeg, yes)), made(of(api.ENot)), made(boolean(2)), made(boolean(-1)), made(vertex(-1)), made(variable(0)),
		made(of(api.EIf, yes, one, yes)), made(of(api.EIf, one, one, one)), made(of(api.EIf, yes, one)), made(of(api.EAnd, boolean(0), one)), made(of(api.EAnd, boolean(0), of(api.ENot, one))), made(of(api.EOr, yes, variable(0))),
		made(call(0, vertex(1))), made(call(11, vertex(1))), made(quant(0, all, yes)), made(quant(7, all, one)), made(quant(api.QuantAll, yes, yes)), made(quant(api.QuantAll, of(api.ESetList), one)), made(quant(api.QuantAll, all, variable(1))), made(quant(api.QuantAll, setName("in"), yes)), made(quant(api.QuantAll, setName(""), yes)),
		made(cell(0, one)), made(cell(1, one), 0), made(cell(-1, one), 0), made(cell(0, one), 1), made(cell(0, one), -1), made(cell(0, one), 5), made(one, 5), made(one, -1), made(cell(0), 0), made(cell(0, all), 0), made(cell(0, one, one), 0),
		made(of(api.EAdd, cell(0, one), cell(0, integer(2))), 0), made(of(api.EAdd, cell(0, size), cell(0, of(api.EAdd, size, integer(0)))), 0), made(quant(api.QuantAll, all, of(api.EEq, cell(0, variable(0)), vertex(1))), 0),
		made(api.Node{Kind: api.EInt, Name: "v"}), made(api.Node{Kind: api.EBool, N: 1, Kids: []api.Node{one}}), made(api.Node{Kind: api.EAdd, N: 1, Kids: []api.Node{one, one}}), made(api.Node{Kind: api.EName, Name: "v"}), made(api.Node{Kind: 27}), made(api.Node{Kind: -1}),
		made(one, make([]int, 257)...),
	} {
		if _, is := folded(t, p); is {
			t.Errorf("was folded: %s", told(p))
		}
	}
}

// Plans that are within themselves, or have more parts than there may be.
func TestF1PlansWithoutEnd(t *testing.T) {
	kids := make([]api.Node, 2)
	kids[0], kids[1] = api.Node{Kind: api.EAdd, Kids: kids}, integer(0)
	wide := integer(0)
	for range 60 {
		wide = of(api.EAdd, wide, wide)
	}
	one := integer(1)
	for _, root := range []api.Node{kids[0], wide, chain(4096, one, func(n api.Node) api.Node { return of(api.ENeg, n) }), chain(4, of(api.ENeg, one), func(n api.Node) api.Node { return of(api.EIf, boolean(1), n, kids[0]) })} {
		if got, err := fold.Fold(made(root)); err != api.ErrPlanForm || len(got.Root.Kids) != 0 || got.Root.Kind != 0 {
			t.Errorf("%d", err)
		}
	}
}

// The greatest plans that there are.
func TestF1GreatPlans(t *testing.T) {
	size := call(api.CallSize, vertex(1))
	wantFolded(t, made(chain(4095, integer(1), func(n api.Node) api.Node { return of(api.ENeg, n) })), made(integer(-1)))
	block := call(api.CallBlock, vertex(1), vertex(2))
	wantFolded(t, made(chain(4093, block, func(n api.Node) api.Node { return of(api.ENot, n) })), made(of(api.ENot, block)))
	wantFolded(t, made(chain(2047, size, func(n api.Node) api.Node { return of(api.EAdd, n, integer(0)) })), made(size))
	wantFolded(t, made(chain(2047, integer(5), func(n api.Node) api.Node { return of(api.EAdd, integer(3), n) })), made(integer(5+3*2047)))
	list := of(api.ESetList)
	for range 4093 {
		list.Kids = append(list.Kids, vertex(1))
	}
	wantStays(t, made(quant(api.QuantCount, list, boolean(1))))
	wantStays(t, made(chain(2047, size, func(n api.Node) api.Node { return of(api.ESub, integer(0), n) })))
	cells := made(chain(4000, size, func(n api.Node) api.Node { return cell(0, n) }), 0)
	if plan.Right(cells) {
		t.Error("a cell within itself")
	}
	cells = made(size)
	for i := range 256 {
		cells.Root, cells.Cells = cell(i, cells.Root), append(cells.Cells, 0)
	}
	wantStays(t, cells)
}

// Every kind of part, with kids of all sorts.
func TestF1SmallPlans(t *testing.T) {
	block := call(api.CallBlock, vertex(1), vertex(2))
	pool := []api.Node{
		integer(math.MinInt), integer(-1), integer(0), integer(1), integer(2), integer(math.MaxInt), boolean(0), boolean(1), vertex(0), vertex(1), call(api.CallSize, vertex(1)), block, of(api.ENot, block), of(api.ENot, boolean(1)),
		of(api.EDiv, integer(1), integer(0)), of(api.ENeg, integer(1)), of(api.ENeg, integer(math.MinInt)), cell(0, integer(1)), cell(1, block), cell(2, boolean(0)), call(api.CallRep, vertex(3)), quant(api.QuantMin, of(api.ESetList), integer(1)), quant(api.QuantAll, all, boolean(1)),
	}
	many := 0
	hold := func(n api.Node) {
		if _, is := folded(t, made(n, 0, 0, 0)); is {
			many++
		}
	}
	sets := []api.Node{all, setName("few"), of(api.ESetAround, vertex(1)), of(api.ESetList), of(api.ESetList, vertex(1)), of(api.ESetList, vertex(1), vertex(1))}
	for kind := range 28 {
		for n := -1; n < 12; n++ {
			if n > 0 && !slices.Contains([]int{api.EInt, api.EBool, api.EVertex, api.EVar, api.ECall, api.EQuant, api.ECell}, kind) {
				continue
			}
			hold(api.Node{Kind: kind, N: n})
			for _, a := range append(slices.Clone(pool), sets...) {
				hold(api.Node{Kind: kind, N: n, Kids: []api.Node{a}})
				for _, b := range pool {
					hold(api.Node{Kind: kind, N: n, Kids: []api.Node{a, b}})
				}
			}
		}
	}
	for _, a := range pool {
		for _, b := range pool {
			for _, c := range pool {
				hold(of(api.EIf, a, b, c))
			}
		}
	}
	if many < 3500 {
		t.Errorf("%d", many)
	}
}

func TestF1DrawnPlans(t *testing.T) {
	right, wrong, less := 0, 0, 0
	for _, d := range []*drawn{drawing(0, 5, 0), drawing(15, 5, 0), drawing(40, 5, 0), drawing(10, 30, 2)} {
		for i := range 6000 {
			p := d.plan(1+i%3, 3+i%6)
			got, is := folded(t, p)
			if !is {
				wrong++
				continue
			}
			right++
			if countParts(got.Root) < countParts(p.Root) {
				less++
			}
		}
	}
	if right < 15000 || wrong < 1000 || less < 5000 {
		t.Errorf("%d, %d, %d", right, wrong, less)
	}
}
