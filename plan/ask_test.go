package plan_test

import (
	"fmt"
	"math"
	"testing"

	"isthmus/api"
	"isthmus/plan"
)

func TestL3Examples(t *testing.T) {
	s := docGraph(t)
	p := planOf(t, "count v in few: connected(v, @1)")
	wantAsked(t, p, s, 100, isInt(2), 11)
	wantAsked(t, p, s, 11, isInt(2), 11)
	wantAsked(t, p, s, 10, isFault(api.FaultFuel), 10)
	size := call(api.CallSize, vertex(1))
	wantAsked(t, made(quant(api.QuantSum, setName("few"), size)), s, 100, isInt(12), 8)
	wantAsked(t, made(quant(api.QuantSum, setName("few"), cell(0, size)), 0), s, 100, isInt(12), 7)
}

// DOC.md's examples of the whole.
func TestL3TheWhole(t *testing.T) {
	s := docGraph(t)
	for text, want := range map[string]api.Answer{
		"connected(@1, @4)": isBool(1), "connected(@1, @5)": isBool(0), "connected(@1, @9)": isFault(api.FaultVertex),
		"block(@1, @3)": isBool(1), "block(@3, @4)": isBool(0),
		"bottleneck(@1, @3)": isInt(7), "bottleneck(@1, @5)": isFault(api.FaultEmpty), "bottleneck(@1, @1)": isFault(api.FaultEmpty),
		"size(@2)": isInt(4), "total(@2)": isInt(100), "least(@5)": isInt(50), "rep(@4)": isVertex(1),
		"all v in few: connected(v, @1)": isBool(0), "count v in few: connected(v, @1)": isInt(2), "max v in vertices: degree(v)": isInt(3),
		"min v in {}: value(v)": isFault(api.FaultEmpty), "sum v in nobody: 1": isFault(api.FaultSet),
		"9223372036854775807 + 1": isFault(api.FaultOverflow), "1 / 0": isFault(api.FaultZero), "true or 1 / 0 = 1": isBool(1),
		"some v in around(@1): all w in around(v): v = w or bottleneck(v, w) < 8": isBool(1),
		"some v in around(@1): all w in around(v): bottleneck(v, w) < 8 or v = w": isFault(api.FaultEmpty),
		"size(@1) + size(@2) + size(@3)":                                          isInt(12),
	} {
		if a, _ := asked(t, planOf(t, text), s, 1000); a != want {
			t.Errorf("%s: %v, not %v", text, a, want)
		}
	}
	wantAsked(t, planOf(t, "size(@1) + size(@2) + size(@3)"), s, 3, isFault(api.FaultFuel), 3)
}

// What each part is worth, and how many parts were asked for it.
func TestL3EachPart(t *testing.T) {
	s := docGraph(t)
	for _, x := range []struct {
		text string
		want api.Answer
		many int
	}{
		{"7", isInt(7), 1}, {"true", isBool(1), 1}, {"false", isBool(0), 1}, {"@3", isVertex(3), 1}, {"@9", isFault(api.FaultVertex), 1}, {"@0", isFault(api.FaultVertex), 1}, {"@9223372036854775807", isFault(api.FaultVertex), 1}, {"@1099511627777", isFault(api.FaultVertex), 1},
		{"-7", isInt(-7), 2}, {"--7", isInt(7), 3}, {"-0", isInt(0), 2}, {"not true", isBool(0), 2}, {"not false", isBool(1), 2}, {"not not false", isBool(0), 3},
		{"3 + 4", isInt(7), 3}, {"3 - 4", isInt(-1), 3}, {"3 * 4", isInt(12), 3}, {"7 / 2", isInt(3), 3}, {"7 % 2", isInt(1), 3}, {"-7 / 2", isInt(-3), 4}, {"-7 % 2", isInt(-1), 4}, {"7 / -2", isInt(-3), 4}, {"7 % -2", isInt(1), 4}, {"-7 / -2", isInt(3), 5}, {"-7 % -2", isInt(-1), 5},
		{"0 / 5", isInt(0), 3}, {"5 / 0", isFault(api.FaultZero), 3}, {"5 % 0", isFault(api.FaultZero), 3}, {"0 / 0", isFault(api.FaultZero), 3}, {"0 % 0", isFault(api.FaultZero), 3},
		{"3 = 3", isBool(1), 3}, {"3 = 4", isBool(0), 3}, {"3 != 3", isBool(0), 3}, {"3 != 4", isBool(1), 3}, {"true = true", isBool(1), 3}, {"true != false", isBool(1), 3}, {"@1 = @1", isBool(1), 3}, {"@1 = @2", isBool(0), 3}, {"@1 != @2", isBool(1), 3}, {"@1 = @9", isFault(api.FaultVertex), 3}, {"@9 = @1", isFault(api.FaultVertex), 2},
		{"3 < 4", isBool(1), 3}, {"3 < 3", isBool(0), 3}, {"4 < 3", isBool(0), 3}, {"3 <= 4", isBool(1), 3}, {"3 <= 3", isBool(1), 3}, {"4 <= 3", isBool(0), 3}, {"-1 < 0", isBool(1), 4},
		{"true and true", isBool(1), 3}, {"true and false", isBool(0), 3}, {"false and true", isBool(0), 2}, {"false and false", isBool(0), 2}, {"true or true", isBool(1), 2}, {"true or false", isBool(1), 2}, {"false or true", isBool(1), 3}, {"false or false", isBool(0), 3},
		{"if true then 3 else 4", isInt(3), 3}, {"if false then 3 else 4", isInt(4), 3}, {"if true then @1 else @9", isVertex(1), 3}, {"if false then @1 else @9", isFault(api.FaultVertex), 3}, {"if true then false else true", isBool(0), 3},
		{"size(@1)", isInt(4), 2}, {"size(@5)", isInt(1), 2}, {"total(@5)", isInt(50), 2}, {"least(@4)", isInt(10), 2}, {"most(@4)", isInt(40), 2}, {"value(@4)", isInt(40), 2}, {"degree(@3)", isInt(3), 2}, {"degree(@5)", isInt(0), 2}, {"rep(@5)", isVertex(5), 2}, {"rep(rep(@3))", isVertex(1), 3},
		{"size(@9)", isFault(api.FaultVertex), 2}, {"connected(@1, @2)", isBool(1), 3}, {"connected(@9, @8)", isFault(api.FaultVertex), 2}, {"connected(@5, @5)", isBool(1), 3}, {"block(@1, @2)", isBool(1), 3}, {"block(@1, @4)", isBool(0), 3}, {"block(@1, @9)", isFault(api.FaultVertex), 3},
		{"bottleneck(@4, @1)", isInt(7), 3}, {"bottleneck(@1, @2)", isInt(4), 3}, {"bottleneck(@4, @5)", isFault(api.FaultEmpty), 3}, {"bottleneck(@1, @9)", isFault(api.FaultVertex), 3}, {"value(rep(@9))", isFault(api.FaultVertex), 3},
	} {
		wantAsked(t, planOf(t, x.text), s, 100, x.want, x.many)
	}
}

// What each quantifier is worth over each set, and how many parts were asked for it.
func TestL3Quantifiers(t *testing.T) {
	s := docGraph(t)
	s.AddSet("none")
	for _, x := range []struct {
		text string
		want api.Answer
		many int
	}{
		{"all v in {}: false", isBool(1), 2}, {"some v in {}: true", isBool(0), 2}, {"count v in {}: true", isInt(0), 2}, {"sum v in {}: 5", isInt(0), 2}, {"min v in {}: 5", isFault(api.FaultEmpty), 2}, {"max v in {}: 5", isFault(api.FaultEmpty), 2},
		{"all v in none: false", isBool(1), 2}, {"some v in none: true", isBool(0), 2}, {"count v in none: true", isInt(0), 2}, {"sum v in none: 5", isInt(0), 2}, {"min v in none: 5", isFault(api.FaultEmpty), 2}, {"max v in none: 5", isFault(api.FaultEmpty), 2},
		{"all v in few: true", isBool(1), 5}, {"all v in few: false", isBool(0), 3}, {"some v in few: true", isBool(1), 3}, {"some v in few: false", isBool(0), 5}, {"count v in few: true", isInt(3), 5}, {"count v in few: false", isInt(0), 5}, {"sum v in few: 5", isInt(15), 5}, {"min v in few: 5", isInt(5), 5}, {"max v in few: 5", isInt(5), 5},
		{"all v in few: v != @4", isBool(0), 2 + 2*3}, {"some v in few: v = @4", isBool(1), 2 + 2*3}, {"all v in few: v != @3", isBool(1), 2 + 3*3}, {"some v in few: v = @5", isBool(1), 2 + 3*3},
		{"count v in vertices: value(v) < 25", isInt(2), 2 + 5*4}, {"count v in vertices: degree(v) = 2", isInt(2), 2 + 5*4}, {"sum v in few: value(v)", isInt(100), 2 + 3*2}, {"min v in few: value(v)", isInt(10), 2 + 3*2}, {"max v in few: value(v)", isInt(50), 2 + 3*2}, {"min v in few: -value(v)", isInt(-50), 2 + 3*3}, {"max v in few: -value(v)", isInt(-10), 2 + 3*3},
		{"min v in {@1}: 5", isInt(5), 4}, {"max v in {@1}: -5", isInt(-5), 5}, {"min v in {@1}: 0", isInt(0), 4},
		{"sum v in vertices: value(v)", isInt(150), 2 + 5*2}, {"sum v in around(@4): value(v)", isInt(100), 3 + 4*2}, {"sum v in around(@5): value(v)", isInt(50), 3 + 2}, {"sum v in around(@9): value(v)", isFault(api.FaultVertex), 3}, {"sum v in {@5, @1, @5}: value(v)", isInt(60), 5 + 2*2}, {"count v in {@3, @2, @3, @2}: true", isInt(2), 6 + 2},
		{"sum v in {@1, @9, @8}: 1", isFault(api.FaultVertex), 4}, {"sum v in nobody: 1 / 0", isFault(api.FaultSet), 2}, {"sum v in {rep(@4), @1}: value(v)", isInt(10), 5 + 2},
		{"sum v in few: 1 / 0", isFault(api.FaultZero), 5}, {"sum v in few: 10 / (value(v) - 40)", isFault(api.FaultZero), 2 + 2*6},
	} {
		wantAsked(t, planOf(t, x.text), s, 100, x.want, x.many)
	}
	wantAsked(t, planOf(t, "count v in few: 0 < (count w in {v, @1}: w = v)"), s, 100, isInt(3), 2+3*(1+1+1+3)+(1+2+2)*3)
	wantAsked(t, planOf(t, "sum v in vertices: sum w in around(v): value(w)"), s, 1000, isInt(4*100+50), 2+5*3+17*2)
	wantAsked(t, planOf(t, "sum v in few: sum w in few: sum x in few: sum y in few: 1"), s, 1000, isInt(81), 2+3*(2+3*(2+3*(2+3))))
	wantAsked(t, planOf(t, "sum v in vertices: 1"), newStore(t), 1000, isInt(0), 2)
}

// The vertices come by rising IDs: so the first that comes to a fault, or settles all, is the least.
func TestL3RisingIDs(t *testing.T) {
	s := newStore(t)
	ids := []int{7, 1 << 40, 0, 1 << 33, 12, 3}
	for i, id := range ids {
		s.AddVertex(id, i)
		if i > 0 {
			s.AddEdge(i, id, ids[i-1], i)
		}
	}
	s.AddSet("few")
	for _, id := range ids {
		s.Put("few", id)
	}
	rising := []int{0, 3, 7, 12, 1 << 33, 1 << 40}
	for _, set := range []string{"vertices", "few", "around(@7)", "{@12, @7, @1099511627776, @0, @8589934592, @3, @0}"} {
		more, _ := asked(t, planOf(t, "count v in "+set+": true"), s, 100)
		_, sets := asked(t, planOf(t, "all v in "+set+": false"), s, 100)
		if more != isInt(6) {
			t.Fatalf("%s: %v", set, more)
		}
		for i, id := range rising {
			some := planOf(t, fmt.Sprintf("some v in %s: v = @%d", set, id))
			wantAsked(t, some, s, 100, isBool(1), sets-1+3*(i+1))
			wantAsked(t, planOf(t, fmt.Sprintf("all v in %s: v != @%d", set, id)), s, 100, isBool(0), sets-1+3*(i+1))
			wantAsked(t, planOf(t, fmt.Sprintf("count v in %s: 1 / value(if v = @%d then @7 else @0) = 0", set, id)), s, 100, isFault(api.FaultZero), sets-1+10*i+9)
		}
	}
}

// The greatest numbers and what lies beyond them, beside numbers without an end.
func TestL3Arithmetic(t *testing.T) {
	s := docGraph(t)
	edges := []int{0, 1, -1, 2, -2, 3, -3, 7, 10, 63, 64, math.MaxInt, math.MinInt, math.MaxInt - 1, math.MinInt + 1, math.MaxInt / 2, math.MinInt / 2, math.MaxInt/2 + 1, math.MinInt/2 - 1, math.MaxInt / 3, math.MinInt / 3,
		1 << 31, -1 << 31, 1<<31 - 1, 1 << 32, -1 << 32, 1<<32 + 1, 1 << 40, -1 << 40, 3037000499, 3037000500, -3037000499, -3037000500, 1 << 62, -1 << 62, 1<<62 - 1}
	next := numbers()
	for range 40 {
		edges = append(edges, int(uint64(next(1<<62))<<next(3))-next(1<<62), next(1<<32)-1<<31)
	}
	faults := map[int]int{}
	for _, a := range edges {
		x, _ := asked(t, made(of(api.ENeg, integer(a))), s, 10)
		faults[x.Fault]++
		for _, b := range edges {
			for kind := api.EAdd; kind <= api.EAtMost; kind++ {
				x, n := asked(t, made(of(kind, integer(a), integer(b))), s, 10)
				faults[x.Fault]++
				if n != 3 {
					t.Errorf("%d", n)
				}
			}
		}
	}
	if faults[0] < 5000 || faults[api.FaultOverflow] < 5000 || faults[api.FaultZero] < 100 || len(faults) != 3 {
		t.Errorf("%v", faults)
	}
	least := integer(math.MinInt)
	wantAsked(t, made(of(api.EDiv, least, integer(-1))), s, 10, isFault(api.FaultOverflow), 3)
	wantAsked(t, made(of(api.ERem, least, integer(-1))), s, 10, isInt(0), 3)
	wantAsked(t, made(of(api.EMul, least, integer(-1))), s, 10, isFault(api.FaultOverflow), 3)
	wantAsked(t, made(of(api.EMul, integer(-1), least)), s, 10, isFault(api.FaultOverflow), 3)
	wantAsked(t, made(of(api.EMul, integer(1), least)), s, 10, isInt(math.MinInt), 3)
	wantAsked(t, made(of(api.ENeg, least)), s, 10, isFault(api.FaultOverflow), 2)
	wantAsked(t, made(of(api.ESub, integer(0), least)), s, 10, isFault(api.FaultOverflow), 3)
	wantAsked(t, made(of(api.ESub, integer(-1), least)), s, 10, isInt(math.MaxInt), 3)
}

// A sum goes one by one: what is beyond 64 bits on the way is a fault, though all of them would have room.
func TestL3Sums(t *testing.T) {
	s := docGraph(t)
	pick := func(a, b, c int) api.Node {
		return of(api.EIf, of(api.EEq, variable(0), vertex(1)), integer(a), of(api.EIf, of(api.EEq, variable(0), vertex(4)), integer(b), integer(c)))
	}
	sum := func(a, b, c int) api.Answer {
		x, _ := asked(t, made(quant(api.QuantSum, setName("few"), pick(a, b, c))), s, 100)
		return x
	}
	for _, x := range []struct {
		a, b, c int
		want    api.Answer
	}{
		{math.MaxInt, 1, -1, isFault(api.FaultOverflow)}, {math.MaxInt, -1, 1, isInt(math.MaxInt)}, {-1, math.MaxInt, 1, isInt(math.MaxInt)}, {math.MinInt, -1, 1, isFault(api.FaultOverflow)}, {1, math.MinInt, -1, isInt(math.MinInt)},
		{math.MaxInt, 0, 1, isFault(api.FaultOverflow)}, {math.MinInt, math.MaxInt, 0, isInt(-1)}, {1, 2, 4, isInt(7)},
	} {
		if got := sum(x.a, x.b, x.c); got != x.want {
			t.Errorf("%d, %d, %d: %v", x.a, x.b, x.c, got)
		}
	}
	// The fault is there ahead of the next body.
	_, n := asked(t, made(quant(api.QuantSum, setName("few"), pick(math.MaxInt, 1, 1))), s, 100)
	if n != 2+5+9 {
		t.Errorf("%d", n)
	}
	for _, n := range []int{math.MinInt, math.MaxInt, 0, -1} {
		wantAsked(t, made(quant(api.QuantMin, setName("few"), integer(n))), s, 100, isInt(n), 5)
		wantAsked(t, made(quant(api.QuantMax, setName("few"), integer(n))), s, 100, isInt(n), 5)
	}
	for _, x := range [][3]int{{1, 2, 3}, {3, 2, 1}, {2, 3, 1}, {2, 1, 3}, {-1, -2, -3}, {-3, -2, -1}, {math.MaxInt, math.MinInt, 0}, {0, math.MinInt, math.MaxInt}} {
		wantAskedOnly(t, made(quant(api.QuantMin, setName("few"), pick(x[0], x[1], x[2]))), isInt(min(x[0], x[1], x[2])))
		wantAskedOnly(t, made(quant(api.QuantMax, setName("few"), pick(x[0], x[1], x[2]))), isInt(max(x[0], x[1], x[2])))
	}
}

// wantAskedOnly is wantAsked in DOC.md's graph, whatever the number of parts.
func wantAskedOnly(t *testing.T, p api.Plan, want api.Answer) {
	t.Helper()
	if a, _ := asked(t, p, docGraph(t), 1000); a != want {
		t.Errorf("%v, not %v: %s", a, want, told(p))
	}
}

// The first fault ends all: kids from the left, and both ahead of what is made of them.
func TestL3FirstFault(t *testing.T) {
	s := docGraph(t)
	for _, x := range []struct {
		text  string
		fault int
		many  int
	}{
		{"1 / 0 + value(@9)", api.FaultZero, 4}, {"value(@9) + 1 / 0", api.FaultVertex, 3}, {"1 / value(@9)", api.FaultVertex, 4}, {"value(@9) / 0", api.FaultVertex, 3}, {"(1 / 0) / 0", api.FaultZero, 4}, {"bottleneck(@1, @5) / 0", api.FaultEmpty, 4},
		{"9223372036854775807 + 1 / 0", api.FaultZero, 5}, {"(9223372036854775807 + 1) / 0", api.FaultOverflow, 4}, {"1 / 0 = value(@9)", api.FaultZero, 4}, {"value(@9) < 1 / 0", api.FaultVertex, 3}, {"-(1 / 0)", api.FaultZero, 4}, {"not (1 / 0 = 1)", api.FaultZero, 5},
		{"1 / 0 = 1 and value(@9) = 1", api.FaultZero, 5}, {"true and value(@9) = 1", api.FaultVertex, 5}, {"value(@9) = 1 or true", api.FaultVertex, 4}, {"if 1 / 0 = 1 then @9 else @8", api.FaultZero, 5}, {"if true then 1 / 0 else value(@9)", api.FaultZero, 5}, {"if false then 1 / 0 else value(@9)", api.FaultVertex, 4},
		{"connected(@9, if 1 / 0 = 1 then @1 else @2)", api.FaultVertex, 2}, {"connected(if 1 / 0 = 1 then @1 else @2, @9)", api.FaultZero, 6}, {"bottleneck(@1, @9)", api.FaultVertex, 3}, {"bottleneck(@9, @9)", api.FaultVertex, 2},
		{"sum v in around(@9): 1 / 0", api.FaultVertex, 3}, {"sum v in few: value(@9) + 1 / 0", api.FaultVertex, 5}, {"min v in around(if 1 / 0 = 1 then @1 else @2): 1", api.FaultZero, 7}, {"all v in few: 1 / 0 = value(@9)", api.FaultZero, 6},
		{"count v in nobody: 1 / 0 = 1", api.FaultSet, 2}, {"(count v in nobody: true) + 1 / 0", api.FaultSet, 3}, {"1 / 0 + (count v in nobody: true)", api.FaultZero, 4}, {"sum v in few: min w in {}: 1", api.FaultEmpty, 4},
	} {
		p := planOf(t, x.text)
		wantAsked(t, p, s, 100, isFault(x.fault), x.many)
		wantAsked(t, p, s, x.many, isFault(x.fault), x.many)
		wantAsked(t, p, s, x.many-1, isFault(api.FaultFuel), x.many-1)
	}
}

// A budget below 0 is 0, one above 1000000 is that.
func TestL3Budgets(t *testing.T) {
	s := docGraph(t)
	p := planOf(t, "1 + 2")
	for _, budget := range []int{math.MinInt, -1, 0} {
		wantAsked(t, p, s, budget, isFault(api.FaultFuel), 0)
	}
	wantAsked(t, p, s, 1, isFault(api.FaultFuel), 1)
	wantAsked(t, p, s, 2, isFault(api.FaultFuel), 2)
	for _, budget := range []int{3, 4, 1000000, 1000001, math.MaxInt} {
		wantAsked(t, p, s, budget, isInt(3), 3)
	}
	wantAsked(t, planOf(t, "@9"), s, 0, isFault(api.FaultFuel), 0)
	wantAsked(t, planOf(t, "sum v in nobody: 1"), s, 1, isFault(api.FaultFuel), 1)
	wantAsked(t, planOf(t, "sum v in {}: 1"), s, 1, isFault(api.FaultFuel), 1)
	wantAsked(t, planOf(t, "sum v in {}: 1"), s, 2, isInt(0), 2)
}

// A plan that asks a million parts, and one that asks one more.
func TestL3AMillion(t *testing.T) {
	s := newStore(t)
	for i := range 10 {
		s.AddVertex(i, i)
	}
	// A quantifier over ten vertices asks 2 and ten times its body.
	body := func(n api.Node) api.Node { return quant(api.QuantSum, all, n) }
	neg := func(n api.Node) api.Node { return of(api.ENeg, n) }
	p := made(chain(4, chain(98, integer(1), neg), body))
	ends := 2 + 10*(2+10*(2+10*(2+10*99)))
	if ends != 992222 {
		t.Fatal(ends)
	}
	const room = 1000000 - 992222 - 1
	for _, budget := range []int{1000000, 1000001, math.MaxInt} {
		if a, n := plan.Ask(p, s, budget); a != isInt(10000) || n != ends {
			t.Errorf("%v, %d", a, n)
		}
	}
	if a, n := plan.Ask(p, s, ends-1); a != isFault(api.FaultFuel) || n != ends-1 {
		t.Errorf("%v, %d", a, n)
	}
	// What is missing to a million is asked in one more round.
	more := func(many int) api.Plan {
		list := of(api.ESetList)
		for i := range 7 {
			list.Kids = append(list.Kids, vertex(i))
		}
		round := quant(api.QuantSum, list, chain(1107, integer(1), neg))
		return made(of(api.EAdd, of(api.EAdd, round, chain(many, integer(0), neg)), p.Root))
	}
	// 2 of the sums; 9 of the quantifier and its set; 7 times 1108; the rest.
	rest := room - 1 - 9 - 7*1108
	if rest < 1 || rest > 40 || !plan.Right(more(rest)) {
		t.Fatal(rest)
	}
	for _, budget := range []int{1000000, 1000001, math.MaxInt} {
		if a, n := plan.Ask(more(rest-1), s, budget); a != isInt(9993) || n != 1000000 {
			t.Errorf("%v, %d", a, n)
		}
		if a, n := plan.Ask(more(rest), s, budget); a != isFault(api.FaultFuel) || n != 1000000 {
			t.Errorf("%v, %d", a, n)
		}
	}
}

// Without a store, or of a wrong plan, there is no answer, whatever the budget.
func TestL3Nothing(t *testing.T) {
	for _, budget := range []int{-1, 0, 1, 1000} {
		if a, n := plan.Ask(made(integer(1)), nil, budget); a != (api.Answer{}) || n != 0 {
			t.Errorf("%v, %d without a store", a, n)
		}
		if a, n := plan.Ask(api.Plan{}, nil, budget); a != (api.Answer{}) || n != 0 {
			t.Errorf("%v, %d of nothing", a, n)
		}
		for _, p := range []api.Plan{{}, made(all), made(variable(0)), made(of(api.EAdd, integer(1), boolean(1))), made(cell(0, integer(1))), made(integer(1), 5), made(boolean(2)), made(vertex(-1))} {
			wantAsked(t, p, docGraph(t), budget, api.Answer{}, 0)
		}
	}
}

// Drawn plans in drawn graphs, with all budgets up to what they need.
func TestL3DrawnPlans(t *testing.T) {
	next := numbers()
	faults := map[int]int{}
	for _, cells := range []int{0, 15, 40} {
		d := drawing(cells, 20, 0)
		for i := range 2500 {
			p, s := d.plan(1+i%3, 5), drawnGraph(t, next)
			a, n := asked(t, p, s, 20000)
			faults[a.Fault]++
			for range 3 {
				asked(t, p, s, next(n+2))
			}
		}
	}
	for f := range 6 {
		if faults[f] < 40 {
			t.Errorf("%v", faults)
			break
		}
	}
}

// Plans that are wrong here and there: those that are right by chance are asked, the others have no answer.
func TestL3DrawnWrongPlans(t *testing.T) {
	next := numbers()
	d := drawing(30, 3, 5)
	for i := range 3000 {
		asked(t, d.plan(1+i%3, 5), drawnGraph(t, next), 3000)
	}
}
