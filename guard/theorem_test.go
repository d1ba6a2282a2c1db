package guard_test

import (
	"fmt"
	"slices"
	"testing"

	"isthmus/api"
	"isthmus/emit"
	"isthmus/fold"
	"isthmus/guard"
	"isthmus/hoist"
	"isthmus/plan"
	"isthmus/share"
)

func sum(set, body api.Node) api.Node { return quant(api.QuantSum, set, body) }

// within is how many quantifiers stand in one another.
func within(n api.Node) int {
	most := 0
	for _, kid := range n.Kids {
		most = max(most, within(kid))
	}
	if n.Kind == api.EQuant {
		most++
	}
	return most
}

// emitted is the code of a plan that has one, and what Verify tells of it: V3 is held.
func emitted(t *testing.T, p api.Plan) (api.Code, api.Limits) {
	t.Helper()
	c, e := emit.Emit(p)
	if e != api.OK {
		t.Fatalf("%d of %s", e, told(p))
	}
	limits, e, at := verified(t, c)
	if e != api.OK || at != 0 || limits.Kind != plan.Kind(p) || limits.Rounds > within(p.Root) || limits.Stack < 1 || limits.Stack > 1024 {
		t.Fatalf("%v, %d at %d of %s, whose code is %s", limits, e, at, told(p), written(c))
	}
	return c, limits
}

func TestV3Queries(t *testing.T) {
	is := func(stack, rounds, kind int) api.Limits {
		return api.Limits{Stack: stack, Rounds: rounds, Kind: kind}
	}
	for query, want := range map[string]api.Limits{
		"1 + 2": is(2, 0, 1), "count v in few: v = @1": is(3, 1, 1), "7": is(1, 0, 1), "true": is(1, 0, 2), "@3": is(1, 0, 3), "-7": is(1, 0, 1), "not true": is(1, 0, 2), "1 = 2": is(2, 0, 2), "@1 != @2": is(2, 0, 2), "1 <= 2": is(2, 0, 2),
		"true and false": is(1, 0, 2), "true or 1 < 2": is(2, 0, 2), "if true then @1 else rep(@2)": is(1, 0, 3), "1 + (2 + (3 + 4))": is(4, 0, 1), "1 + 2 + 3 + 4": is(2, 0, 1),
		"connected(@1, @2)": is(2, 0, 2), "bottleneck(@1, @2)": is(2, 0, 1), "size(@1)": is(1, 0, 1),
		"all v in vertices: true": is(1, 1, 2), "some v in around(@1): v = @2": is(2, 1, 2), "sum v in few: 1": is(2, 1, 1), "min v in few: 1": is(3, 1, 1), "max v in {}: value(v)": is(3, 1, 1), "sum v in {@1, @2, @3, @4}: 1": is(4, 1, 1),
		"sum v in vertices: sum w in vertices: sum x in vertices: sum y in vertices: 1": is(5, 4, 1), "max v in few: max w in few: max x in few: max y in few: 1": is(9, 4, 1), "(sum v in few: 1) + (sum v in few: 2)": is(3, 1, 1),
		"all v in {if some w in few: w = @1 then @1 else @2}: true": is(2, 1, 2), "all v in around(if some w in few: w = @1 then @1 else @2): some x in few: x = v": is(2, 2, 2),
		"some v in vertices: all w in around(v): v = w or bottleneck(v, w) < 8": is(2, 2, 2),
	} {
		if _, limits := emitted(t, planOf(t, query)); limits != want {
			t.Errorf("%s: %v; wanted %v", query, limits, want)
		}
	}
}

// Code of drawn plans is taken; and code that is a change or two away from it is as the plain way says.
func TestV3Plans(t *testing.T) {
	d := draw(55555)
	seen, rounds := map[api.Errno]int{}, map[int]int{}
	for _, way := range []*drawn{drawing(0, 0, 0), drawing(20, 0, 0), drawing(35, 10, 0)} {
		for i := range 5000 {
			p := way.plan(1+i%3, 1+i%8)
			if !plan.Right(p) {
				t.Fatalf("not right: %s", told(p))
			}
			c, limits := emitted(t, p)
			rounds[limits.Rounds]++
			if again, e, _ := verified(t, shuffled(&d, c)); again != limits || e != api.OK {
				t.Fatalf("%v, %d in another order of %s", again, e, written(c))
			}
			_, e, _ := verified(t, changed(&d, c, 1+d.below(2)))
			seen[e]++
		}
	}
	wantSeen(t, seen, 50)
	if len(rounds) != 5 || rounds[4] < 50 {
		t.Errorf("%v", rounds)
	}
}

// Whatever passes made of a plan.
func TestV3Passes(t *testing.T) {
	passes := []func(api.Plan) (api.Plan, api.Errno){fold.Fold, share.Reps, hoist.Hoist, share.Share}
	for _, query := range []string{
		"sum v in vertices: size(@1) + size(v) * 1 + (count w in around(v): connected(v, w) or connected(w, @1))",
		"all v in vertices: some w in vertices: connected(v, @1) and value(w) = value(v) or 1 + 1 = 3",
		"max v in few: sum w in around(v): value(w) - value(v) * (min x in many: degree(x) + value(v))",
		"count v in {@1, @2, rep(@3)}: not (all w in even: block(v, w) = connected(v, w)) and size(v) = size(v)",
		"if some v in few: connected(v, @1) and value(v) != value(@1) then bottleneck(@1, @2) + bottleneck(@1, @2) else -total(rep(@3))",
		"rep(if (sum v in vertices: value(v) * value(v)) < 100 then @1 else rep(@2))",
	} {
		for order := range 256 {
			p := planOf(t, query)
			for i := order; i > 0; i /= 4 {
				p, _ = passes[i%4](p)
			}
			emitted(t, p)
		}
	}
}

// The greatest plans that Emit takes, by their values on the stack and by their words.
func TestV3Greatest(t *testing.T) {
	leaning := func(many int, last api.Node) api.Plan {
		return made(chain(many, last, func(n api.Node) api.Node { return of(api.EAdd, integer(1), n) }), 0)
	}
	for _, x := range []struct {
		n     api.Node
		needs int
	}{{integer(7), 1}, {call(api.CallSize, vertex(7)), 1}, {cell(0, integer(7)), 1}, {sum(all, integer(7)), 2}, {quant(api.QuantMin, all, integer(7)), 3}, {quant(api.QuantCount, all, cell(0, boolean(1))), 2}, {chain(4, integer(7), func(n api.Node) api.Node { return quant(api.QuantMax, all, n) }), 9}} {
		if _, limits := emitted(t, leaning(1024-x.needs, x.n)); limits.Stack != 1024 {
			t.Errorf("%v of %s", limits, told(made(x.n)))
		}
		if _, limits := emitted(t, leaning(1023-x.needs, x.n)); limits.Stack != 1023 {
			t.Errorf("%v of %s", limits, told(made(x.n)))
		}
		if _, e := emit.Emit(leaning(1025-x.needs, x.n)); e != api.ErrEmitLong {
			t.Errorf("%d of %s", e, told(made(x.n)))
		}
	}
	root := sum(all, integer(7))
	for range 255 {
		root = of(api.EAdd, root, sum(all, integer(7)))
	}
	c, limits := emitted(t, made(root, slices.Repeat([]int{1}, 121)...))
	if want := (api.Limits{Stack: 3, Rounds: 1, Kind: api.KindInt}); len(c.Words) != 32768 || limits != want {
		t.Errorf("%d words, %v", len(c.Words), limits)
	}
}

// roomy is a list with something behind its length.
func roomy[T any](l []T, behind T) []T {
	return append(slices.Clone(l), behind, behind, behind)[:len(l)]
}

// Code is only looked at, nor is what stands behind its lists written into; and nothing of it is kept.
func TestV1Memory(t *testing.T) {
	l := &layer{draw: 123456789, wild: 3}
	for i := range 500 {
		was := l.flow(3 + i%60)
		if i%7 == 0 {
			was.Cells = []int{9}
		}
		c := api.Code{Words: roomy(was.Words, 77), Consts: roomy(was.Consts, 77), Names: roomy(was.Names, "behind"), Cells: roomy(was.Cells, 77)}
		limits, e, at := guard.Verify(c)
		if !slices.Equal(c.Words, was.Words) || !slices.Equal(c.Consts, was.Consts) || !slices.Equal(c.Names, was.Names) || !slices.Equal(c.Cells, was.Cells) {
			t.Fatalf("it was written into: %s", written(c))
		}
		ends := fmt.Sprint(c.Words[len(c.Words):len(c.Words)+3], c.Consts[len(c.Consts):len(c.Consts)+3], c.Names[len(c.Names):len(c.Names)+3], c.Cells[len(c.Cells):len(c.Cells)+3])
		if ends != "[77 77 77] [77 77 77] [behind behind behind] [77 77 77]" {
			t.Fatalf("behind its lists stands %s", ends)
		}
		for j := range c.Words {
			c.Words[j] = 99
		}
		guard.Verify(c)
		guard.Verify(api.Code{})
		if again, e2, at2 := guard.Verify(was); again != limits || e2 != e || at2 != at {
			t.Fatalf("%v, %d at %d, and then %v, %d at %d of %s", limits, e, at, again, e2, at2, written(was))
		}
	}
}
