package emit_test

import (
	"testing"

	"isthmus/api"
)

// leaning is a sum of so many numbers that needs as many values on the stack.
func leaning(many int) api.Node {
	return chain(many-1, integer(1), func(n api.Node) api.Node { return of(api.EAdd, integer(1), n) })
}

func list(many int) api.Node {
	n := of(api.ESetList)
	for range many {
		n.Kids = append(n.Kids, vertex(3))
	}
	return n
}

// asTruth and asVertex turn a number that needs two values on the stack or more into another kind, with no value more.
func asTruth(n api.Node) api.Node { return of(api.EEq, n, integer(1)) }

func asVertex(n api.Node) api.Node { return of(api.EIf, asTruth(n), vertex(1), vertex(2)) }

// places are all kinds of places in which a number may stand, and how many values are on the stack below it there.
func places() map[int][]func(api.Node) api.Node {
	two := func(kind int) func(api.Node) api.Node {
		return func(n api.Node) api.Node { return of(kind, integer(1), n) }
	}
	few, yes := setName("few"), boolean(1)
	return map[int][]func(api.Node) api.Node{
		0: {
			func(n api.Node) api.Node { return n },
			func(n api.Node) api.Node { return of(api.ENeg, n) },
			func(n api.Node) api.Node { return of(api.ENot, asTruth(n)) },
			func(n api.Node) api.Node { return of(api.EMul, n, integer(1)) },
			func(n api.Node) api.Node { return of(api.ELess, n, integer(1)) },
			func(n api.Node) api.Node { return of(api.EAnd, asTruth(n), yes) },
			func(n api.Node) api.Node { return of(api.EAnd, yes, asTruth(n)) },
			func(n api.Node) api.Node { return of(api.EOr, asTruth(n), yes) },
			func(n api.Node) api.Node { return of(api.EOr, yes, asTruth(n)) },
			func(n api.Node) api.Node { return of(api.EIf, asTruth(n), integer(1), integer(2)) },
			func(n api.Node) api.Node { return of(api.EIf, yes, n, integer(2)) },
			func(n api.Node) api.Node { return of(api.EIf, yes, integer(2), n) },
			func(n api.Node) api.Node { return call(api.CallSize, asVertex(n)) },
			func(n api.Node) api.Node { return call(api.CallBlock, asVertex(n), vertex(1)) },
			func(n api.Node) api.Node { return cell(0, n) },
			func(n api.Node) api.Node { return sum(of(api.ESetAround, asVertex(n)), integer(1)) },
			func(n api.Node) api.Node { return sum(of(api.ESetList, asVertex(n), vertex(1)), integer(1)) },
			func(n api.Node) api.Node { return quant(api.QuantMin, of(api.ESetList, asVertex(n)), integer(1)) },
			func(n api.Node) api.Node { return quant(api.QuantAll, few, asTruth(n)) },
			func(n api.Node) api.Node { return quant(api.QuantSome, few, asTruth(n)) },
		},
		1: {
			two(api.EAdd), two(api.ESub), two(api.EMul), two(api.EDiv), two(api.ERem), two(api.EEq), two(api.ENe), two(api.ELess), two(api.EAtMost),
			func(n api.Node) api.Node { return call(api.CallConnected, vertex(1), asVertex(n)) },
			func(n api.Node) api.Node { return call(api.CallBottleneck, vertex(1), asVertex(n)) },
			func(n api.Node) api.Node { return sum(of(api.ESetList, vertex(1), asVertex(n), vertex(1)), integer(1)) },
			func(n api.Node) api.Node { return quant(api.QuantCount, few, asTruth(n)) },
			func(n api.Node) api.Node { return sum(few, n) },
			func(n api.Node) api.Node { return of(api.EAdd, integer(1), cell(0, n)) },
			func(n api.Node) api.Node { return of(api.EAdd, integer(1), of(api.EIf, yes, integer(1), n)) },
		},
		2: {
			func(n api.Node) api.Node { return quant(api.QuantMin, few, n) },
			func(n api.Node) api.Node { return quant(api.QuantMax, few, n) },
			func(n api.Node) api.Node { return sum(few, sum(few, n)) },
			func(n api.Node) api.Node {
				return sum(of(api.ESetList, vertex(1), vertex(1), asVertex(n)), integer(1))
			},
			func(n api.Node) api.Node { return of(api.EAdd, integer(1), quant(api.QuantCount, few, asTruth(n))) },
			func(n api.Node) api.Node {
				return of(api.EAdd, integer(1), quant(api.QuantCount, list(2), of(api.EEq, n, integer(1))))
			},
		},
		3: {
			func(n api.Node) api.Node { return sum(few, quant(api.QuantMax, few, n)) },
			func(n api.Node) api.Node { return quant(api.QuantMax, few, sum(few, n)) },
			func(n api.Node) api.Node { return of(api.EAdd, integer(1), quant(api.QuantMin, few, n)) },
		},
		8: {
			func(n api.Node) api.Node {
				return chain(4, n, func(n api.Node) api.Node { return quant(api.QuantMax, few, n) })
			},
		},
	}
}

// There may be 1024 values on the stack, wherever they come together.
func TestE1Stack(t *testing.T) {
	for below, ways := range places() {
		for _, way := range ways {
			for many := 1016; many <= 1027; many++ {
				want := api.OK
				if below+many > 1024 {
					want = api.ErrEmitLong
				}
				wantError(t, made(way(leaning(many)), 0), want)
			}
		}
	}
	for _, many := range []int{0, 1, 1023, 1024, 1025, 2000, 4093} {
		want := api.OK
		if many > 1024 {
			want = api.ErrEmitLong
		}
		wantError(t, made(quant(api.QuantAll, list(many), boolean(1))), want)
		wantError(t, made(sum(list(many), integer(1))), want)
	}
}

// Whatever kind of part comes last may be the one for which there is no room.
func TestE1StackOfVertices(t *testing.T) {
	for _, last := range []api.Node{vertex(7), variable(0), call(api.CallRep, variable(0)), cell(0, vertex(7)), of(api.EIf, boolean(1), variable(0), variable(0))} {
		for many := 1020; many <= 1028; many++ {
			set := list(many)
			set.Kids[many-1] = last
			want := api.OK
			if many > 1024 {
				want = api.ErrEmitLong
			}
			wantError(t, made(quant(api.QuantAll, all, quant(api.QuantAll, set, boolean(1))), 0), want)
		}
	}
	for many := 1020; many <= 1028; many++ {
		want := api.OK
		if many > 1024 {
			want = api.ErrEmitLong
		}
		wantError(t, made(chain(many-1, boolean(0), func(n api.Node) api.Node { return of(api.ENe, boolean(1), n) })), want)
	}
}

// The same of numbers, and of what a quantifier pushes itself.
func TestE1StackOfNumbers(t *testing.T) {
	for _, x := range []struct {
		n    api.Node
		most int // numbers below it
	}{
		{integer(7), 1023}, {call(api.CallSize, vertex(7)), 1023}, {sum(all, integer(7)), 1022}, {sum(all, of(api.EAdd, integer(7), integer(8))), 1021}, {quant(api.QuantCount, all, boolean(1)), 1022}, {quant(api.QuantMin, all, integer(7)), 1021}, {quant(api.QuantMax, all, integer(7)), 1021},
		{of(api.EIf, quant(api.QuantAll, all, boolean(1)), integer(7), integer(8)), 1023}, {of(api.EIf, quant(api.QuantSome, all, boolean(1)), integer(7), integer(8)), 1023}, {of(api.EIf, of(api.EAnd, boolean(1), boolean(1)), integer(7), integer(8)), 1023}, {cell(0, integer(7)), 1023},
		{sum(list(3), integer(7)), 1021}, {sum(list(4), integer(7)), 1020}, {sum(list(2), integer(7)), 1022}, {sum(list(0), integer(7)), 1022},
	} {
		for below := 1015; below <= 1025; below++ {
			want := api.OK
			if below > x.most {
				want = api.ErrEmitLong
			}
			wantError(t, made(chain(below, x.n, func(n api.Node) api.Node { return of(api.EAdd, integer(1), n) }), 0), want)
		}
	}
}

// clearing is so many sums, each of which clears so many cells: in all (7 + cells) times as many words.
func clearing(sums, cells int) api.Plan {
	one := func() api.Node { return sum(all, integer(7)) }
	root := one()
	for range sums - 1 {
		root = of(api.EAdd, root, one())
	}
	p := made(root)
	for range cells {
		p.Cells = append(p.Cells, 1)
	}
	return p
}

// There may be 32768 words.
func TestE1Words(t *testing.T) {
	for _, x := range []struct{ sums, cells int }{{256, 121}, {128, 249}, {512, 57}, {1024, 25}} {
		p := clearing(x.sums, x.cells)
		c, err := emitted(t, p)
		if err != api.OK || len(c.Words) != 32768 {
			t.Fatalf("%d: %d words", err, len(c.Words))
		}
		p.Cells[x.cells-1] = 2 // it clears nothing any more
		if c, err = emitted(t, p); err != api.OK || len(c.Words) != 32768-x.sums {
			t.Errorf("%d: %d words", err, len(c.Words))
		}
		p.Cells[x.cells-1] = 1
		if countParts(p.Root) < 4096 {
			p.Root = of(api.ENeg, p.Root)
			wantError(t, p, api.ErrEmitLong)
		}
		p = clearing(x.sums, x.cells)
		p.Cells = append(p.Cells, 1)
		wantError(t, p, api.ErrEmitLong)
		p = clearing(x.sums, x.cells)
		p.Root.Kids[1].Kids[1] = integer(8) // another constant is no other word
		wantError(t, p, api.OK)
		p.Root.Kids[1].Kids[1] = of(api.ENeg, integer(8))
		if countParts(p.Root) <= 4096 {
			wantError(t, p, api.ErrEmitLong)
		}
	}
	for sums := 122; sums <= 128; sums++ {
		for cells := 245; cells <= 256; cells++ {
			want := api.OK
			if sums*(7+cells) > 32768 {
				want = api.ErrEmitLong
			}
			wantError(t, clearing(sums, cells), want)
		}
	}
	wantError(t, clearing(1024, 256), api.ErrEmitLong)
	p := clearing(300, 256)
	p.Root = of(api.EAdd, p.Root, leaning(1100)) // too long in both ways
	wantError(t, p, api.ErrEmitLong)
}
