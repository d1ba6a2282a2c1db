package plan_test

import (
	"math"
	"reflect"
	"slices"
	"testing"

	"isthmus/api"
	"isthmus/plan"
	"isthmus/store"
)

func TestL2Examples(t *testing.T) {
	p := made(quant(api.QuantSum, setName("few"), cell(0, call(api.CallSize, vertex(1)))), 0)
	wantRight(t, true, p)
	if plan.Kind(p) != api.KindInt {
		t.Errorf("%d", plan.Kind(p))
	}
	p.Cells[0] = 1
	wantRight(t, true, p)
	p.Cells[0] = 2
	wantRight(t, false, p)
	wantRight(t, false, api.Plan{})
	wantRight(t, true, made(integer(-5)))
}

func TestL2Kinds(t *testing.T) {
	for text, kind := range map[string]int{
		"1": api.KindInt, "true": api.KindBool, "@1": api.KindVertex, "-1": api.KindInt, "not true": api.KindBool, "1 % 2": api.KindInt, "1 <= 2": api.KindBool, "@1 = @2": api.KindBool, "true or true": api.KindBool,
		"if true then @1 else @2": api.KindVertex, "if true then 1 else 2": api.KindInt, "rep(@1)": api.KindVertex, "block(@1, @2)": api.KindBool, "bottleneck(@1, @2)": api.KindInt, "most(@1)": api.KindInt,
		"some v in x: true": api.KindBool, "count v in x: true": api.KindInt, "max v in x: 1": api.KindInt,
	} {
		p := planOf(t, text)
		wantRight(t, true, p)
		if plan.Kind(p) != kind {
			t.Errorf("%s is of kind %d", text, plan.Kind(p))
		}
		p = made(cell(0, p.Root), 0)
		wantRight(t, true, p)
		if plan.Kind(p) != kind {
			t.Errorf("%s in a cell is of kind %d", text, plan.Kind(p))
		}
	}
}

// smallKids are lists of up to three kids of all sorts.
func smallKids() [][]api.Node {
	leaves := []api.Node{integer(1), boolean(0), vertex(2), variable(0), all, of(api.ESetList)}
	kids := [][]api.Node{nil, {}}
	for _, a := range leaves {
		kids = append(kids, []api.Node{a})
		for _, b := range leaves {
			kids = append(kids, []api.Node{a, b})
			for _, c := range leaves {
				kids = append(kids, []api.Node{a, b, c})
			}
		}
	}
	return append(kids, []api.Node{boolean(1), boolean(1), boolean(1), boolean(1)}, []api.Node{vertex(1), vertex(1), vertex(1), vertex(1)}, []api.Node{all, boolean(1), boolean(1), boolean(1)})
}

// All parts of all kinds and numbers with all sorts of kids: by themselves, in a body, and as a set.
func TestL2AllSmallPlans(t *testing.T) {
	right, many := 0, 0
	for kind := -1; kind <= 28; kind++ {
		for n := -1; n <= 12; n++ {
			for _, kids := range smallKids() {
				x := api.Node{Kind: kind, N: n, Kids: kids}
				for _, root := range []api.Node{x, quant(api.QuantCount, all, x), quant(api.QuantSum, all, x), quant(api.QuantAll, all, of(api.EEq, x, variable(0))), quant(api.QuantAll, all, quant(api.QuantAll, x, boolean(1)))} {
					many++
					if checked(t, made(root, 0, 1)) {
						right++
					}
				}
			}
		}
	}
	if right < 250 || many-right < 100000 {
		t.Errorf("%d of %d", right, many)
	}
}

// Which numbers may stand in a part.
func TestL2Numbers(t *testing.T) {
	numbers := []int{math.MinInt, -1 << 40, -2, -1, 0, 1, 2, 3, 4, 5, 6, 7, 9, 10, 11, 255, 256, 1 << 40, 1<<40 + 1, math.MaxInt}
	body := func(n api.Node) api.Node { return quant(api.QuantAll, all, n) }
	for _, n := range numbers {
		wantRight(t, true, made(integer(n)))
		wantRight(t, n == 0 || n == 1, made(boolean(n)))
		wantRight(t, n >= 0, made(vertex(n)))
		wantRight(t, n >= api.CallConnected && n <= api.CallBottleneck, made(call(n, vertex(1), vertex(2))))
		wantRight(t, n >= api.CallSize && n <= api.CallRep, made(call(n, vertex(1))))
		wantRight(t, n >= api.QuantAll && n <= api.QuantCount, made(quant(n, all, boolean(1))))
		wantRight(t, n >= api.QuantSum && n <= api.QuantMax, made(quant(n, all, integer(1))))
		wantRight(t, n == 0, made(api.Node{Kind: api.ENeg, N: n, Kids: []api.Node{integer(1)}}))
		wantRight(t, n == 0, made(api.Node{Kind: api.EIf, N: n, Kids: []api.Node{boolean(1), integer(1), integer(1)}}))
		wantRight(t, n == 0, made(api.Node{Kind: api.EAnd, N: n, Kids: []api.Node{boolean(1), boolean(1)}}))
		for _, kind := range []int{api.ESetAll, api.ESetList} {
			wantRight(t, n == 0, made(quant(api.QuantAll, api.Node{Kind: kind, N: n}, boolean(1))))
		}
		wantRight(t, n == 0, made(quant(api.QuantAll, api.Node{Kind: api.ESetName, N: n, Name: "x"}, boolean(1))))
		wantRight(t, n == 0, made(quant(api.QuantAll, api.Node{Kind: api.ESetAround, N: n, Kids: []api.Node{vertex(1)}}, boolean(1))))
		wantRight(t, false, made(variable(n)))
		eq := of(api.EEq, variable(n), vertex(1))
		for around := range 5 {
			wantRight(t, n >= 0 && n < around, made(chain(around, eq, body)))
		}
		for cells := range 4 {
			wantRight(t, n >= 0 && n < cells, made(cell(n, integer(1)), make([]int, cells)...))
		}
		wantRight(t, n >= 0 && n < 256, made(cell(n, integer(1)), make([]int, 256)...))
	}
}

// Names stand in sets by names alone, and must be names.
func TestL2Names(t *testing.T) {
	for _, name := range []string{"", "x", "few", "a_0123456789", "abcdefghijkl", "abcdefghijklm", "in", "all", "vertices", "X", "1a", "_a", "a b", "a-", "in_", "ä", "a\x00"} {
		wantRight(t, plainName(name), made(quant(api.QuantAll, setName(name), boolean(1))))
	}
	for _, root := range []api.Node{
		integer(1), boolean(1), vertex(1), of(api.ENeg, integer(1)), of(api.EAdd, integer(1), integer(1)), of(api.EIf, boolean(1), integer(1), integer(1)), call(api.CallSize, vertex(1)), quant(api.QuantAll, all, boolean(1)), cell(0, integer(1)),
	} {
		wantRight(t, true, made(root, 0))
		root.Name = "x"
		wantRight(t, false, made(root, 0))
	}
	for _, set := range []api.Node{all, of(api.ESetAround, vertex(1)), of(api.ESetList)} {
		wantRight(t, true, made(quant(api.QuantAll, set, boolean(1))))
		set.Name = "x"
		wantRight(t, false, made(quant(api.QuantAll, set, boolean(1))))
	}
	wantRight(t, false, made(quant(api.QuantAll, all, of(api.EEq, api.Node{Kind: api.EVar, Name: "v"}, vertex(1)))))
	wantRight(t, false, made(quant(api.QuantAll, all, of(api.EEq, api.Node{Kind: api.EName, Name: "v"}, vertex(1)))))
}

// Sets stand as the first kids of quantifiers, and nothing else does.
func TestL2Sets(t *testing.T) {
	sets := []api.Node{all, setName("x"), of(api.ESetAround, vertex(1)), of(api.ESetList), of(api.ESetList, vertex(1), vertex(2))}
	for _, set := range sets {
		wantRight(t, true, made(quant(api.QuantAll, set, boolean(1))))
		for _, root := range []api.Node{
			set, cell(0, set), of(api.ENeg, set), of(api.ENot, set), of(api.EEq, set, set), of(api.ENe, set, set), of(api.EIf, boolean(1), set, set), of(api.EIf, set, integer(1), integer(1)), call(api.CallSize, set),
			quant(api.QuantAll, set, set), quant(api.QuantAll, boolean(1), set), quant(api.QuantAll, all, set), quant(api.QuantAll, cell(0, set), boolean(1)), quant(api.QuantAll, of(api.ESetList, set), boolean(1)),
			quant(api.QuantAll, of(api.ESetAround, set), boolean(1)), quant(api.QuantAll, of(api.EIf, boolean(1), set, set), boolean(1)), of(api.EAdd, set, integer(1)), of(api.EAnd, boolean(1), set),
			quant(api.QuantAll, set), quant(api.QuantAll, set, boolean(1), boolean(1)), quant(api.QuantAll, set, set, boolean(1)), quant(api.QuantAll),
		} {
			wantRight(t, false, made(root, 0))
		}
	}
	wantRight(t, false, made(quant(api.QuantAll, vertex(1), boolean(1))))
}

// Four quantifiers may stand in one another, in bodies and in sets.
func TestL2QuantifiersInOneAnother(t *testing.T) {
	body := func(n api.Node) api.Node { return quant(api.QuantAll, all, n) }
	around := func(n api.Node) api.Node {
		return quant(api.QuantAll, of(api.ESetAround, of(api.EIf, n, vertex(1), vertex(2))), boolean(1))
	}
	list := func(n api.Node) api.Node {
		return quant(api.QuantAll, of(api.ESetList, vertex(3), of(api.EIf, n, vertex(1), vertex(2))), boolean(1))
	}
	beside := func(n api.Node) api.Node { return of(api.ENot, of(api.EIf, boolean(1), body(n), n)) }
	ways := []func(api.Node) api.Node{body, around, list, beside}
	for way := range 1 << 10 {
		n := boolean(1)
		for i := range 5 {
			wantRight(t, true, made(n))
			n = ways[way>>(2*i)&3](n)
		}
		wantRight(t, false, made(n))
	}
	four := chain(4, boolean(1), body)
	wantRight(t, true, made(of(api.EAnd, four, of(api.EOr, four, four))))
	wantRight(t, false, made(quant(api.QuantAll, all, four)))
	wantRight(t, false, made(chain(5, cell(0, boolean(1)), body), 4))
}

// A variable is one of a quantifier in whose body it stands; of one in whose set it stands it is none.
func TestL2VariablesInSets(t *testing.T) {
	around := func(n int, body api.Node) api.Node { return quant(api.QuantAll, of(api.ESetAround, variable(n)), body) }
	wantRight(t, false, made(around(0, boolean(1))))
	wantRight(t, true, made(quant(api.QuantAll, all, around(0, of(api.EEq, variable(0), variable(1))))))
	wantRight(t, false, made(quant(api.QuantAll, all, around(1, boolean(1)))))
	wantRight(t, false, made(quant(api.QuantAll, all, around(0, of(api.EEq, variable(0), variable(2))))))
	within := quant(api.QuantAll, all, of(api.EEq, variable(0), vertex(1)))
	wantRight(t, true, made(quant(api.QuantAll, of(api.ESetAround, of(api.EIf, within, vertex(1), vertex(2))), boolean(1))))
	within = quant(api.QuantAll, all, of(api.EEq, variable(1), vertex(1)))
	wantRight(t, false, made(quant(api.QuantAll, of(api.ESetAround, of(api.EIf, within, vertex(1), vertex(2))), boolean(1))))
}

// As many parts as there may be, and one more.
func TestL2ManyParts(t *testing.T) {
	neg := func(n api.Node) api.Node { return of(api.ENeg, n) }
	add := func(n api.Node) api.Node { return of(api.EAdd, n, integer(1)) }
	wantRight(t, true, made(chain(4095, integer(1), neg)))
	wantRight(t, false, made(chain(4096, integer(1), neg)))
	wantRight(t, true, made(chain(2047, integer(1), add)))
	wantRight(t, true, made(neg(chain(2047, integer(1), add))))
	wantRight(t, false, made(chain(2048, integer(1), add)))
	list := of(api.ESetList)
	for range 4096 - 3 {
		list.Kids = append(list.Kids, vertex(1))
	}
	wantRight(t, true, made(quant(api.QuantAll, list, boolean(1))))
	wantRight(t, false, made(quant(api.QuantAll, list, of(api.ENot, boolean(1)))))
	list.Kids[4092] = integer(1)
	wantRight(t, false, made(quant(api.QuantAll, list, boolean(1))))
	wantRight(t, true, made(chain(1365, integer(7), func(n api.Node) api.Node { return of(api.EIf, boolean(0), n, integer(1)) })))
	wantRight(t, false, made(chain(1366, integer(7), func(n api.Node) api.Node { return of(api.EIf, boolean(0), n, integer(1)) })))
}

// As many cells as there may be, and one more; each of as many quantifiers as there may be.
func TestL2Cells(t *testing.T) {
	wantRight(t, true, made(integer(1), make([]int, 256)...))
	wantRight(t, false, made(integer(1), make([]int, 257)...))
	for level := -1; level <= 6; level++ {
		wantRight(t, level >= 0 && level <= 4, made(integer(1), level))
		wantRight(t, level >= 0 && level <= 4, made(integer(1), 0, 1, level, 4))
	}
	wantRight(t, false, made(integer(1), math.MinInt))
	wantRight(t, false, made(integer(1), math.MaxInt))
	var root = integer(1)
	var cells []int
	for i := range 256 {
		root = cell(i, root)
		cells = append(cells, 0)
	}
	wantRight(t, true, made(root, cells...))
	wantRight(t, false, made(cell(256, root), append(cells, 0)...))
	wantRight(t, false, made(root, cells[:255]...))
	wantRight(t, false, made(cell(0)))
	wantRight(t, false, made(cell(0), 0))
	wantRight(t, false, made(cell(0, integer(1), integer(1)), 0))
}

// A cell hangs on at most as many quantifiers as there are around it, and on at least as many as what it keeps.
func TestL2CellsHang(t *testing.T) {
	body := func(n api.Node) api.Node { return quant(api.QuantSum, all, n) }
	for around := range 5 {
		for level := range 5 {
			wantRight(t, level <= around, made(chain(around, cell(0, integer(1)), body), level))
			for n := range around {
				wantRight(t, n < level && level <= around, made(chain(around, cell(0, call(api.CallValue, variable(n))), body), level))
				kid := of(api.EAdd, call(api.CallValue, variable(n)), call(api.CallValue, variable(0)))
				wantRight(t, n < level && level <= around, made(chain(around, cell(0, kid), body), level))
				kid = of(api.EAdd, call(api.CallValue, variable(0)), call(api.CallValue, variable(n)))
				wantRight(t, n < level && level <= around, made(chain(around, cell(0, of(api.ENeg, kid)), body), level))
			}
			if around < 4 { // what is bound within does not hang on what is around
				inner := body(call(api.CallValue, variable(around)))
				wantRight(t, level <= around, made(chain(around, cell(0, inner), body), level))
				inner = body(of(api.EAdd, call(api.CallValue, variable(around)), call(api.CallValue, variable(0))))
				wantRight(t, around == 0 && level == 0 || level > 0 && level <= around, made(chain(around, cell(0, inner), body), level))
			}
		}
	}
	// In a set a cell has fewer quantifiers around it.
	set := of(api.ESetAround, cell(0, vertex(1)))
	wantRight(t, true, made(quant(api.QuantSum, set, integer(1)), 0))
	wantRight(t, false, made(quant(api.QuantSum, set, integer(1)), 1))
	wantRight(t, true, made(body(quant(api.QuantSum, set, integer(1))), 1))
	wantRight(t, false, made(body(quant(api.QuantSum, set, integer(1))), 2))
	set = of(api.ESetAround, cell(0, variable(0)))
	wantRight(t, false, made(body(quant(api.QuantSum, set, integer(1))), 0))
	wantRight(t, true, made(body(quant(api.QuantSum, set, integer(1))), 1))
}

// All cells of one number keep the same.
func TestL2CellsAlike(t *testing.T) {
	size := call(api.CallSize, vertex(1))
	two := func(a, b api.Node) api.Node { return of(api.EAdd, a, b) }
	body := func(n api.Node) api.Node { return quant(api.QuantSum, all, n) }
	wantRight(t, true, made(two(cell(0, size), cell(0, copied(size))), 0))
	wantRight(t, true, made(two(cell(0, size), cell(1, call(api.CallTotal, vertex(1)))), 0, 0))
	for _, other := range []api.Node{call(api.CallTotal, vertex(1)), call(api.CallSize, vertex(2)), call(api.CallSize, call(api.CallRep, vertex(1))), integer(1), of(api.ENeg, size), cell(1, size), body(size)} {
		wantRight(t, false, made(two(cell(0, size), cell(0, other)), 0, 0))
		wantRight(t, false, made(two(cell(0, other), cell(0, size)), 0, 0))
		wantRight(t, true, made(two(cell(0, other), cell(0, copied(other))), 0, 0))
		wantRight(t, false, made(two(two(cell(0, other), cell(0, other)), cell(0, size)), 0, 0))
		wantRight(t, true, made(two(two(cell(0, other), cell(2, size)), cell(2, size)), 0, 0, 0))
	}
	lists := func(many int) api.Node {
		return quant(api.QuantCount, of(api.ESetList, slices.Repeat([]api.Node{vertex(1)}, many)...), boolean(1))
	}
	wantRight(t, true, made(two(cell(0, lists(2)), cell(0, lists(2))), 0))
	wantRight(t, false, made(two(cell(0, lists(2)), cell(0, lists(3))), 0))
	wantRight(t, false, made(two(cell(0, lists(1)), cell(0, lists(0))), 0))
	names := func(name string) api.Node { return quant(api.QuantCount, setName(name), boolean(1)) }
	wantRight(t, true, made(two(cell(0, names("a")), cell(0, names("a"))), 0))
	wantRight(t, false, made(two(cell(0, names("a")), cell(0, names("b"))), 0))
	// None is within itself.
	wantRight(t, false, made(cell(0, cell(0, integer(1))), 0))
	wantRight(t, false, made(cell(0, two(cell(0, integer(1)), integer(1))), 0))
	wantRight(t, true, made(cell(0, two(cell(1, integer(1)), cell(1, integer(1)))), 0, 0))
	// Alike, part by part, in two rounds; and in rounds of unlike depths.
	value := cell(0, call(api.CallValue, variable(0)))
	wantRight(t, true, made(two(body(value), body(value)), 1))
	wantRight(t, true, made(two(body(value), body(body(value))), 1))
	wantRight(t, false, made(two(body(value), body(body(value))), 2))
	inner := body(call(api.CallValue, variable(0)))
	wantRight(t, true, made(two(cell(0, inner), body(call(api.CallValue, variable(0)))), 0))
	wantRight(t, false, made(two(cell(0, inner), body(cell(0, inner))), 0)) // the variable is the outer round's there
	wantRight(t, false, made(two(cell(0, inner), body(cell(0, inner))), 1))
	// A list of kids may be nil or empty.
	other := copied(size)
	other.Kids[0].Kids = []api.Node{}
	wantRight(t, true, made(two(cell(0, size), cell(0, other)), 0))
}

// Plans that are within themselves, and plans of more parts than could be gone through.
func TestL2PlansWithoutEnd(t *testing.T) {
	s := docGraph(t)
	for _, kind := range []int{api.ENeg, api.ENot, api.EAdd, api.EAnd, api.EEq, api.EIf, api.ECall, api.EQuant, api.ESetList, api.ESetAround, api.ECell} {
		for many := 1; many <= 3; many++ {
			for _, n := range []int{0, 1, 4} {
				kids := make([]api.Node, many)
				for i := range kids {
					kids[i] = api.Node{Kind: kind, N: n, Kids: kids}
				}
				for _, root := range []api.Node{kids[0], quant(api.QuantAll, kids[0], boolean(1)), quant(api.QuantAll, all, kids[0]), cell(0, kids[0]), of(api.EIf, boolean(1), integer(1), kids[0])} {
					wantNothing(t, made(root, 0, 0, 0, 0, 0), s)
				}
			}
		}
	}
	wide := integer(1)
	for range 60 {
		wide = of(api.EAdd, wide, wide)
	}
	wantNothing(t, made(wide), s)
	wantNothing(t, made(cell(0, wide), 0), s)
	wantNothing(t, made(of(api.EAdd, cell(0, wide), cell(0, wide)), 0), s)
	wantNothing(t, made(quant(api.QuantAll, of(api.ESetList, slices.Repeat([]api.Node{vertex(1)}, 1<<20)...), boolean(1))), s)
	wantNothing(t, made(of(api.ESetList, make([]api.Node, 1<<20)...)), s)
	wantNothing(t, made(integer(1), make([]int, 1<<20)...), s)
	wantNothing(t, made(chain(60000, integer(1), func(n api.Node) api.Node { return of(api.ENeg, n) })), s)
	wantNothing(t, made(chain(60000, integer(1), func(n api.Node) api.Node { return cell(0, n) }), 0), s)
}

func wantNothing(t *testing.T, p api.Plan, s *store.Store) {
	t.Helper()
	a, n := plan.Ask(p, s, 1000)
	if plan.Right(p) || plan.Kind(p) != 0 || a != (api.Answer{}) || n != 0 {
		t.Errorf("%v, %d, %v, %d of a plan without an end, of kind %d", plan.Right(p), plan.Kind(p), a, n, p.Root.Kind)
	}
}

// Plans drawn: right ones, and such as are wrong here and there.
func TestL2DrawnPlans(t *testing.T) {
	for _, wrong := range []int{0, 1, 3, 10, 40} {
		d := drawing(25, 20, wrong)
		right, cells := 0, 0
		for i := range 4000 {
			p := d.plan(1+i%3, 6)
			if checked(t, p) {
				right++
				cells += len(p.Cells)
			}
		}
		if wrong == 0 && right != 4000 || right < 300 || wrong > 0 && right > 3900 || cells < 300 {
			t.Errorf("of a hundred %d are wrong: %d right, %d cells", wrong, right, cells)
		}
	}
}

// A right plan in which one thing is changed.
func TestL2ChangedPlans(t *testing.T) {
	d := drawing(25, 5, 0)
	right, wrong := 0, 0
	for i := range 20000 {
		p := copiedPlan(d.plan(1+i%3, 5))
		var parts []*api.Node
		each(&p.Root, func(n *api.Node) { parts = append(parts, n) })
		change(d.next, &p, parts[d.next(len(parts))], *parts[d.next(len(parts))])
		if checked(t, p) {
			right++
		} else {
			wrong++
		}
	}
	if right < 3000 || wrong < 5000 {
		t.Errorf("%d right, %d wrong", right, wrong)
	}
}

func change(next func(int) int, p *api.Plan, n *api.Node, other api.Node) {
	switch next(9) {
	case 0:
		n.Kind = next(28)
	case 1:
		n.N += next(7) - 3
	case 2:
		n.N = next(12) - 1
	case 3:
		n.Name = []string{"", "x", "in", "X", "few"}[next(5)]
	case 4:
		n.Kids = append(n.Kids, copied(other))
	case 5:
		if len(n.Kids) > 0 {
			n.Kids = n.Kids[1:]
		}
	case 6:
		slices.Reverse(n.Kids)
	case 7:
		*n = copied(other)
	case 8:
		if len(p.Cells) > 0 {
			p.Cells[next(len(p.Cells))] = next(7) - 1
		}
	}
}

// Two plans are the same, if they have the same parts and the same cells.
func TestL2Same(t *testing.T) {
	want := func(is bool, a, b api.Plan) {
		t.Helper()
		if plan.Same(a, b) != is || plan.Same(b, a) != is {
			t.Errorf("same should be %v: %s; %s", is, told(a), told(b))
		}
	}
	one := made(quant(api.QuantSum, setName("few"), cell(0, call(api.CallSize, vertex(1)))), 0)
	want(true, one, one)
	want(true, one, copiedPlan(one))
	want(true, api.Plan{}, api.Plan{Root: api.Node{Kids: []api.Node{}}, Cells: []int{}})
	want(true, made(api.Node{Kind: 99, N: -5, Name: "?"}, -7), made(api.Node{Kind: 99, N: -5, Name: "?"}, -7))
	for _, cells := range [][]int{nil, {1}, {0, 0}, {-1}} {
		want(false, one, api.Plan{Root: one.Root, Cells: cells})
	}
	for i := range countParts(one.Root) {
		for _, change := range []func(n *api.Node){
			func(n *api.Node) { n.Kind++ }, func(n *api.Node) { n.N++ }, func(n *api.Node) { n.Name += "x" },
			func(n *api.Node) { n.Kids = append(n.Kids, api.Node{}) },
			func(n *api.Node) { n.Kids = append([]api.Node{{}}, n.Kids...) },
		} {
			other, k := copiedPlan(one), 0
			each(&other.Root, func(n *api.Node) {
				if k == i {
					change(n)
				}
				k++
			})
			want(false, one, other)
		}
	}
	want(false, made(of(api.ESub, integer(1), integer(2))), made(of(api.ESub, integer(2), integer(1))))
	want(false, made(of(api.ESetList, integer(1))), made(of(api.ESetList, integer(1), integer(1))))
	want(true, made(integer(1), 0, 1), made(integer(1), 0, 1))
	want(false, made(integer(1), 0, 1), made(integer(1), 1, 0))
	deep := func() api.Plan {
		return made(chain(60000, integer(1), func(n api.Node) api.Node { return of(api.ENeg, n) }))
	}
	want(true, deep(), deep())
}

func TestL2SameDrawn(t *testing.T) {
	d := drawing(20, 10, 5)
	var plans []api.Plan
	for i := range 200 {
		plans = append(plans, d.plan(1+i%3, 2))
	}
	same := 0
	for _, a := range plans {
		for _, b := range plans {
			want := spelled(a.Root) == spelled(b.Root) && slices.Equal(a.Cells, b.Cells)
			if plan.Same(a, copiedPlan(b)) != want {
				t.Fatalf("same should be %v: %s; %s", want, told(a), told(b))
			}
			if want {
				same++
			}
		}
	}
	if same < 210 {
		t.Errorf("%d", same)
	}
}

// Plans are only looked at, with what stands behind the lengths of their lists; and they may be asked again.
func TestPlansAreNotWrittenInto(t *testing.T) {
	s := docGraph(t)
	d := drawing(25, 10, 2)
	for i := range 1500 {
		p := copiedPlan(d.plan(1+i%3, 5))
		growPlan(&p)
		before := spread(p)
		right, kind := plan.Right(p), plan.Kind(p)
		a, n := plan.Ask(p, s, 500)
		same := plan.Same(p, p)
		if !reflect.DeepEqual(before, spread(p)) {
			t.Fatalf("%s was written into", told(p))
		}
		a2, n2 := plan.Ask(p, s, 500)
		if plan.Right(p) != right || plan.Kind(p) != kind || a2 != a || n2 != n || !same || !plan.Same(p, p) {
			t.Fatalf("%s: other answers", told(p))
		}
	}
}

func growPlan(p *api.Plan) {
	each(&p.Root, func(n *api.Node) {
		n.Kids = append(make([]api.Node, 0, len(n.Kids)+2), n.Kids...)
		spare := n.Kids[len(n.Kids):cap(n.Kids)]
		for i := range spare {
			spare[i] = api.Node{Kind: -5}
		}
	})
	p.Cells = append(make([]int, 0, len(p.Cells)+3), p.Cells...)
	spare := p.Cells[len(p.Cells):cap(p.Cells)]
	for i := range spare {
		spare[i] = -77
	}
}

// spread is a copy of a plan that has what stands behind the lengths of its lists too.
func spread(p api.Plan) api.Plan {
	return api.Plan{Root: spreadNode(p.Root), Cells: append([]int{}, p.Cells[:cap(p.Cells)]...)}
}

func spreadNode(n api.Node) api.Node {
	var kids []api.Node
	for _, kid := range n.Kids[:cap(n.Kids)] {
		kids = append(kids, spreadNode(kid))
	}
	n.Kids = kids
	return n
}
