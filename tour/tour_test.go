package tour_test

import (
	"fmt"
	"math"
	"slices"
	"testing"

	"isthmus/api"
	"isthmus/tour"
)

// noVertices are never vertices, of however many there are.
var noVertices = []int{-1, -2, api.MaxVertices, api.MaxVertices + 1, math.MinInt, math.MaxInt, 1 << 32, -1 << 32}

// pair is Tours beside plain ones, to which the same is done.
type pair struct {
	t *testing.T
	n int
	x *tour.Tours
	p *plain
}

func newPair(t *testing.T, n int) pair {
	t.Helper()
	return pair{t, n, fresh(t, n), newPlain(n)}
}

func fresh(t *testing.T, n int) *tour.Tours {
	t.Helper()
	x, e := tour.New(n)
	if x == nil || e != api.OK {
		t.Fatalf("New(%d): %v, %d", n, x, e)
	}
	return x
}

// do makes calls to both, which must answer the same.
func (b pair) do(calls ...call) {
	b.t.Helper()
	for _, c := range calls {
		got, want := do(b.x, c), do(b.p, c)
		if got != want {
			b.t.Errorf("call %+v: %s, want %s; the tours: %v", c, got, want, b.p.rows)
		}
	}
}

func (b pair) link(pairs ...[2]int) {
	b.t.Helper()
	for _, p := range pairs {
		wantErr(b.t, fmt.Sprintf("Link%v", p), b.x.Link(p[0], p[1]), b.p.Link(p[0], p[1]))
	}
}

// look asks for all that can be known without a change, of the vertices and of those a little beyond them.
func (b pair) look() {
	b.t.Helper()
	for v := -1; v <= b.n; v++ {
		for _, which := range []int{callWalk, callSum, callMarked, callMarkedEdge} {
			b.do(call{which: which, v: v})
		}
		for u := -1; u <= b.n; u++ {
			b.do(call{which: callSame, u: u, v: v})
		}
	}
}

// search marks each edge, and each two, alone for a while: so the order of the steps is told. All marks of edges are gone behind it.
func (b pair) search() {
	b.t.Helper()
	edges := b.edges()
	for _, s := range edges {
		b.do(call{which: callMarkEdge, u: s[0], v: s[1]})
	}
	for i, s := range edges {
		b.do(call{which: callMarkEdge, u: s[1], v: s[0], on: true}, call{which: callMarkedEdge, v: s[0]})
		for _, r := range edges[:i] {
			b.do(call{which: callMarkEdge, u: r[0], v: r[1], on: true}, call{which: callMarkedEdge, v: s[1]}, call{which: callMarkedEdge, v: r[0]}, call{which: callMarkEdge, u: r[0], v: r[1]})
		}
		b.do(call{which: callMarkEdge, u: s[0], v: s[1]})
	}
}

// edges are those that there are, each once.
func (b pair) edges() [][2]int {
	var l [][2]int
	for _, row := range b.p.rows {
		for _, s := range row {
			if s.U < s.V {
				l = append(l, [2]int{s.U, s.V})
			}
		}
	}
	return l
}

func wantErr(t *testing.T, what string, e, want api.Errno) {
	t.Helper()
	if e != want {
		t.Errorf("%s: %d, want %d", what, e, want)
	}
}

func wantWalk(t *testing.T, x *tour.Tours, v int, want ...int) {
	t.Helper()
	if l, e := x.Walk(v); !slices.Equal(l, want) || e != api.OK {
		t.Errorf("Walk(%d): %v, %d; want %v", v, l, e, want)
	}
}

func wantSum(t *testing.T, x *tour.Tours, v int, want api.Agg) {
	t.Helper()
	if a, e := x.Sum(v); a != want || e != api.OK {
		t.Errorf("Sum(%d): %+v, %d; want %+v", v, a, e, want)
	}
}

func wantMarked(t *testing.T, x *tour.Tours, v, want int, e api.Errno) {
	t.Helper()
	if m, f := x.Marked(v); m != want || f != e {
		t.Errorf("Marked(%d): %d, %d; want %d, %d", v, m, f, want, e)
	}
}

func wantMarkedEdge(t *testing.T, x *tour.Tours, v int, want api.Pair, e api.Errno) {
	t.Helper()
	if p, f := x.MarkedEdge(v); p != want || f != e {
		t.Errorf("MarkedEdge(%d): %v, %d; want %v, %d", v, p, f, want, e)
	}
}

func TestT1New(t *testing.T) {
	for _, n := range []int{0, -1, api.MaxVertices + 1, math.MinInt, math.MaxInt, 1 << 32, -1 << 32, 1<<32 + 1} {
		if x, e := tour.New(n); x != nil || e != api.ErrArg {
			t.Errorf("New(%d): %v, %d; want nil, %d", n, x, e, api.ErrArg)
		}
	}
	for n := 1; n <= api.MaxVertices; n++ {
		x := fresh(t, n)
		for v := range n {
			wantWalk(t, x, v, v)
			wantSum(t, x, v, api.Agg{Count: 1})
		}
		_, e := x.Walk(n)
		wantErr(t, "Walk beyond the vertices", e, api.ErrTourVertex)
	}
}

// In a tree of all vertices every node is in use that there is room for.
func TestT1RoomForAllEdges(t *testing.T) {
	for n := 1; n <= api.MaxVertices; n++ {
		b := newPair(t, n)
		for round := range 3 {
			for v := 1; v < n; v++ {
				b.link([2]int{v * round / 2, v})
			}
			b.do(call{which: callWalk, v: n / 2}, call{which: callSum, v: n - 1})
			for _, s := range b.edges() {
				b.do(call{which: callCut, u: s[1], v: s[0]})
			}
		}
		b.look()
	}
}

// chapterTree is the first example's tours.
func chapterTree(t *testing.T) *tour.Tours {
	t.Helper()
	x := fresh(t, 4)
	wantErr(t, "Link(0, 1)", x.Link(0, 1), api.OK)
	wantErr(t, "Link(0, 2)", x.Link(0, 2), api.OK)
	wantWalk(t, x, 2, 0, 2, 1)
	wantErr(t, "Link(3, 2)", x.Link(3, 2), api.OK)
	wantWalk(t, x, 0, 3, 2, 1, 0)
	wantErr(t, "Link(1, 3)", x.Link(1, 3), api.ErrTourSame)
	return x
}

func TestExamples(t *testing.T) {
	x := chapterTree(t)
	wantErr(t, "Reroot(0)", x.Reroot(0), api.OK)
	wantWalk(t, x, 1, 0, 3, 2, 1)
	wantErr(t, "MarkEdge(2, 3, true)", x.MarkEdge(2, 3, true), api.OK)
	wantMarkedEdge(t, x, 1, api.Pair{U: 2, V: 3}, api.OK)
	wantErr(t, "Cut(0, 2)", x.Cut(0, 2), api.OK)
	wantWalk(t, x, 2, 3, 2)
	wantWalk(t, x, 1, 0, 1)
	wantMarkedEdge(t, x, 3, api.Pair{U: 2, V: 3}, api.OK)
	wantErr(t, "Reroot(3)", x.Reroot(3), api.OK)
	wantMarkedEdge(t, x, 3, api.Pair{U: 3, V: 2}, api.OK)
	wantMarkedEdge(t, x, 0, api.Pair{}, api.ErrTourMark)
	wantSum(t, x, 2, api.Agg{Count: 2, Flags: 2})
}

func TestT2LinkRightBehindTheStop(t *testing.T) {
	x := fresh(t, 7)
	for _, c := range []struct {
		u, v int
		walk []int
	}{
		{0, 1, []int{0, 1}},
		{0, 2, []int{0, 2, 1}},
		{0, 3, []int{0, 3, 2, 1}},
		{1, 4, []int{0, 3, 2, 1, 4}},
		{5, 6, []int{5, 6}},
		// The tour that is taken in is turned to begin at 6; that of 2's tree stays as it is.
		{2, 6, []int{0, 3, 2, 6, 5, 1, 4}},
	} {
		wantErr(t, fmt.Sprintf("Link(%d, %d)", c.u, c.v), x.Link(c.u, c.v), api.OK)
		for _, v := range c.walk {
			wantWalk(t, x, v, c.walk...)
		}
	}
}

func TestT2LinkRefused(t *testing.T) {
	b := newPair(t, 5)
	b.link([2]int{0, 1}, [2]int{1, 2}, [2]int{3, 4})
	for _, p := range [][2]int{{0, 0}, {4, 4}, {0, 1}, {1, 0}, {0, 2}, {2, 0}, {4, 3}} {
		wantErr(t, fmt.Sprintf("Link%v", p), b.x.Link(p[0], p[1]), api.ErrTourSame)
	}
	for _, v := range append(noVertices, 5) {
		for _, p := range [][2]int{{v, v}, {v, 0}, {0, v}, {v, 4}, {4, v}} {
			wantErr(t, fmt.Sprintf("Link%v", p), b.x.Link(p[0], p[1]), api.ErrTourVertex)
		}
	}
	b.look()
	b.search()
}

func TestT2NewEdgesAreNotMarked(t *testing.T) {
	x := fresh(t, 3)
	for range 3 {
		for _, p := range [][2]int{{0, 1}, {2, 1}} {
			wantErr(t, "Link", x.Link(p[0], p[1]), api.OK)
			wantMarkedEdge(t, x, 1, api.Pair{}, api.ErrTourMark)
			wantErr(t, "MarkEdge", x.MarkEdge(p[0], p[1], true), api.OK)
			wantSum(t, x, 1, api.Agg{Count: 2, Flags: 2})
			wantErr(t, "Cut", x.Cut(p[1], p[0]), api.OK)
			wantSum(t, x, 1, api.Agg{Count: 1})
		}
	}
}

func TestT3CutOfATurnedTour(t *testing.T) {
	// The tour of 0 - 1 - 2 - 3, begun at each vertex, cut at each edge from both its ends.
	for root := range 4 {
		for u := range 3 {
			for _, p := range [][2]int{{u, u + 1}, {u + 1, u}} {
				b := newPair(t, 4)
				b.link([2]int{0, 1}, [2]int{1, 2}, [2]int{2, 3})
				b.do(call{which: callReroot, v: root}, call{which: callCut, u: p[0], v: p[1]})
				b.look()
				b.search()
				b.do(call{which: callCut, u: p[0], v: p[1]})
				wantErr(t, "Cut again", b.x.Cut(p[1], p[0]), api.ErrTourEdge)
			}
		}
	}
}

// A tour may begin with a step, behind a cut, and it is cut and linked then as others are.
func TestT3TourThatBeginsWithAStep(t *testing.T) {
	x := chapterTree(t)
	wantErr(t, "Reroot(0)", x.Reroot(0), api.OK)
	wantErr(t, "Cut(0, 2)", x.Cut(0, 2), api.OK)
	// 2 to 3, stop 3, 3 to 2, stop 2.
	wantErr(t, "Link(1, 3)", x.Link(1, 3), api.OK)
	wantWalk(t, x, 2, 0, 1, 3, 2)
	wantErr(t, "Cut(3, 1)", x.Cut(3, 1), api.OK)
	wantWalk(t, x, 2, 3, 2)

	y := chapterTree(t)
	wantErr(t, "Reroot(0)", y.Reroot(0), api.OK)
	wantErr(t, "Cut(0, 2)", y.Cut(0, 2), api.OK)
	wantErr(t, "Cut(2, 3)", y.Cut(2, 3), api.OK)
	wantWalk(t, y, 2, 2)
	wantWalk(t, y, 3, 3)
}

func TestT3CutRefused(t *testing.T) {
	b := newPair(t, 5)
	b.link([2]int{0, 1}, [2]int{1, 2}, [2]int{3, 4})
	for _, p := range [][2]int{{0, 0}, {4, 4}, {0, 2}, {2, 0}, {0, 3}, {3, 0}} {
		wantErr(t, fmt.Sprintf("Cut%v", p), b.x.Cut(p[0], p[1]), api.ErrTourEdge)
	}
	for _, v := range append(noVertices, 5) {
		for _, p := range [][2]int{{v, v}, {v, 0}, {0, v}} {
			wantErr(t, fmt.Sprintf("Cut%v", p), b.x.Cut(p[0], p[1]), api.ErrTourVertex)
		}
	}
	b.look()
	b.search()
}

func TestT4RerootTurns(t *testing.T) {
	b := newPair(t, 9)
	b.link([2]int{0, 1}, [2]int{0, 2}, [2]int{2, 3}, [2]int{2, 4}, [2]int{1, 5}, [2]int{6, 7})
	for _, v := range []int{0, 3, 3, 5, 2, 4, 1, 7, 6, 8} {
		b.do(call{which: callReroot, v: v})
		if l, e := b.x.Walk(v); len(l) == 0 || l[0] != v || e != api.OK {
			t.Errorf("Walk(%d) behind Reroot: %v, %d", v, l, e)
		}
		b.look()
		b.search()
	}
}

func TestT4NoSuchVertex(t *testing.T) {
	b := newPair(t, 3)
	b.link([2]int{0, 1})
	for _, v := range append(noVertices, 3) {
		wantErr(t, "Reroot", b.x.Reroot(v), api.ErrTourVertex)
		for _, p := range [][2]int{{v, v}, {v, 0}, {0, v}} {
			if same, e := b.x.Same(p[0], p[1]); same || e != api.ErrTourVertex {
				t.Errorf("Same%v: %t, %d", p, same, e)
			}
		}
		if l, e := b.x.Walk(v); len(l) != 0 || e != api.ErrTourVertex {
			t.Errorf("Walk(%d): %v, %d", v, l, e)
		}
	}
	b.look()
}

func TestT4AnswersAreNewMemory(t *testing.T) {
	b := newPair(t, 5)
	b.link([2]int{0, 1}, [2]int{1, 2}, [2]int{2, 3})
	one, _ := b.x.Walk(2)
	other, _ := b.x.Walk(3)
	for _, l := range [][]int{one[:cap(one)], append(one, 77)} {
		for i := range l {
			l[i] = 99
		}
	}
	b.do(call{which: callCut, u: 1, v: 2})
	if !slices.Equal(other, []int{0, 1, 2, 3}) {
		t.Errorf("an older answer became %v", other)
	}
	b.look()
}

func TestT5ValuesAndSums(t *testing.T) {
	x := fresh(t, 5)
	for v, value := range []int{10, -4, 7, api.MaxValue, -api.MaxValue} {
		wantErr(t, "SetValue", x.SetValue(v, value), api.OK)
		wantSum(t, x, v, api.Agg{Count: 1, Sum: value, Least: value, Most: value})
	}
	wantErr(t, "Link", x.Link(1, 0), api.OK)
	wantErr(t, "Link", x.Link(1, 2), api.OK)
	for v := range 3 {
		wantSum(t, x, v, api.Agg{Count: 3, Sum: 13, Least: -4, Most: 10})
	}
	wantErr(t, "SetValue", x.SetValue(0, -9), api.OK)
	wantSum(t, x, 2, api.Agg{Count: 3, Sum: -6, Least: -9, Most: 7})
	wantErr(t, "Cut", x.Cut(0, 1), api.OK)
	wantSum(t, x, 0, api.Agg{Count: 1, Sum: -9, Least: -9, Most: -9})
	// Steps have no value: the least of values above 0, the most of those below stay what they are.
	wantSum(t, x, 3, api.Agg{Count: 1, Sum: 1 << 40, Least: 1 << 40, Most: 1 << 40})
	wantErr(t, "Link", x.Link(3, 2), api.OK)
	wantErr(t, "Cut", x.Cut(2, 1), api.OK)
	wantSum(t, x, 2, api.Agg{Count: 2, Sum: 1<<40 + 7, Least: 7, Most: 1 << 40})
	wantErr(t, "Link", x.Link(0, 4), api.OK)
	wantSum(t, x, 0, api.Agg{Count: 2, Sum: -1<<40 - 9, Least: -1 << 40, Most: -9})
}

func TestT5ValueStaysBesideMarks(t *testing.T) {
	x := fresh(t, 2)
	wantErr(t, "SetValue", x.SetValue(0, 5), api.OK)
	wantErr(t, "Mark", x.Mark(0, true), api.OK)
	wantSum(t, x, 0, api.Agg{Count: 1, Sum: 5, Least: 5, Most: 5, Flags: 1})
	wantErr(t, "SetValue", x.SetValue(0, 6), api.OK)
	wantSum(t, x, 0, api.Agg{Count: 1, Sum: 6, Least: 6, Most: 6, Flags: 1})
	wantErr(t, "Mark", x.Mark(0, false), api.OK)
	wantSum(t, x, 0, api.Agg{Count: 1, Sum: 6, Least: 6, Most: 6})
}

func TestT5GreatSums(t *testing.T) {
	for _, value := range []int{api.MaxValue, -api.MaxValue} {
		x := fresh(t, api.MaxVertices)
		for v := range api.MaxVertices {
			x.SetValue(v, value)
			if v > 0 {
				x.Link(v/2, v)
			}
		}
		wantSum(t, x, 40, api.Agg{Count: api.MaxVertices, Sum: value * api.MaxVertices, Least: value, Most: value})
	}
}

func TestT5Refused(t *testing.T) {
	b := newPair(t, 2)
	b.link([2]int{0, 1})
	b.do(call{which: callSetValue, v: 0, x: 3}, call{which: callMark, v: 0, on: true})
	for _, x := range []int{1<<40 + 1, -1<<40 - 1, math.MaxInt, math.MinInt} {
		wantErr(t, fmt.Sprintf("SetValue(0, %d)", x), b.x.SetValue(0, x), api.ErrArg)
		for _, v := range append(noVertices, 2) {
			wantErr(t, fmt.Sprintf("SetValue(%d, %d)", v, x), b.x.SetValue(v, x), api.ErrTourVertex)
		}
	}
	for _, v := range append(noVertices, 2) {
		wantErr(t, fmt.Sprintf("SetValue(%d, 0)", v), b.x.SetValue(v, 0), api.ErrTourVertex)
		if a, e := b.x.Sum(v); a != (api.Agg{}) || e != api.ErrTourVertex {
			t.Errorf("Sum(%d): %+v, %d", v, a, e)
		}
	}
	b.look()
}

func TestT6FirstMarkedVertex(t *testing.T) {
	x := chapterTree(t) // 3, 2, 1, 0
	for v := range 4 {
		wantMarked(t, x, v, 0, api.ErrTourMark)
	}
	for _, v := range []int{0, 1, 2, 3} {
		wantErr(t, "Mark", x.Mark(v, true), api.OK)
		wantErr(t, "Mark again", x.Mark(v, true), api.OK)
		wantMarked(t, x, 1, v, api.OK)
		wantSum(t, x, 1, api.Agg{Count: 4, Flags: 1})
	}
	wantErr(t, "Reroot", x.Reroot(1), api.OK)
	wantMarked(t, x, 0, 1, api.OK)
	for _, v := range []int{1, 1, 3} {
		wantErr(t, "Mark", x.Mark(v, false), api.OK)
	}
	wantMarked(t, x, 3, 0, api.OK)
	wantErr(t, "Cut", x.Cut(0, 2), api.OK)
	wantMarked(t, x, 1, 0, api.OK)
	wantMarked(t, x, 3, 2, api.OK)
	wantErr(t, "Mark", x.Mark(2, false), api.OK)
	wantMarked(t, x, 2, 0, api.ErrTourMark)
	wantSum(t, x, 2, api.Agg{Count: 2})
}

func TestT6FirstMarkedEdge(t *testing.T) {
	x := chapterTree(t) // stop 3, 3 to 2, stop 2, 2 to 0, 0 to 1, stop 1, 1 to 0, stop 0, 0 to 2, 2 to 3
	for _, p := range []api.Pair{{U: 0, V: 1}, {U: 2, V: 0}, {U: 3, V: 2}} {
		// Named from either end it is one edge; what is told is how the tour goes.
		wantErr(t, "MarkEdge", x.MarkEdge(p.V, p.U, true), api.OK)
		wantErr(t, "MarkEdge again", x.MarkEdge(p.U, p.V, true), api.OK)
		for v := range 4 {
			wantMarkedEdge(t, x, v, p, api.OK)
		}
		wantSum(t, x, 0, api.Agg{Count: 4, Flags: 2})
		wantMarked(t, x, 0, 0, api.ErrTourMark)
	}
	wantErr(t, "Reroot", x.Reroot(1), api.OK)
	wantMarkedEdge(t, x, 3, api.Pair{U: 1, V: 0}, api.OK)
	wantErr(t, "MarkEdge", x.MarkEdge(0, 1, false), api.OK)
	wantMarkedEdge(t, x, 3, api.Pair{U: 0, V: 2}, api.OK)
	wantErr(t, "MarkEdge", x.MarkEdge(2, 0, false), api.OK)
	wantMarkedEdge(t, x, 3, api.Pair{U: 2, V: 3}, api.OK)
	wantErr(t, "MarkEdge", x.MarkEdge(2, 3, false), api.OK)
	wantMarkedEdge(t, x, 3, api.Pair{}, api.ErrTourMark)
	wantSum(t, x, 3, api.Agg{Count: 4})
}

func TestT6Refused(t *testing.T) {
	b := newPair(t, 4)
	b.link([2]int{0, 1}, [2]int{1, 2})
	for _, v := range append(noVertices, 4) {
		for _, on := range []bool{true, false} {
			wantErr(t, "Mark", b.x.Mark(v, on), api.ErrTourVertex)
			for _, p := range [][2]int{{v, v}, {v, 0}, {0, v}} {
				wantErr(t, fmt.Sprintf("MarkEdge%v", p), b.x.MarkEdge(p[0], p[1], on), api.ErrTourVertex)
			}
		}
		wantMarked(t, b.x, v, 0, api.ErrTourVertex)
		wantMarkedEdge(t, b.x, v, api.Pair{}, api.ErrTourVertex)
	}
	for _, p := range [][2]int{{0, 0}, {0, 2}, {2, 0}, {0, 3}, {3, 3}} {
		for _, on := range []bool{true, false} {
			wantErr(t, fmt.Sprintf("MarkEdge%v", p), b.x.MarkEdge(p[0], p[1], on), api.ErrTourEdge)
		}
	}
	b.look()
}

// The plain tours are closed walks, whatever is linked and cut; the others tell the same stops and steps.
func TestT7ClosedWalks(t *testing.T) {
	next := numbers()
	b := newPair(t, 20)
	for round := range 300 {
		b.do(someCall(next, b.n, callSetValue))
		if l, e := b.x.Walk(round % b.n); e != api.OK || !isSet(l) {
			t.Fatalf("Walk: %v, %d", l, e)
		}
		for _, row := range b.p.rows {
			wantClosedWalk(t, row)
		}
	}
	for v := range b.n {
		b.do(call{which: callReroot, v: v})
		b.look()
		b.search()
	}
}

func isSet(l []int) bool {
	sorted := slices.Sorted(slices.Values(l))
	return len(slices.Compact(sorted)) == len(l)
}

func wantClosedWalk(t *testing.T, row []api.Pair) {
	t.Helper()
	for i, s := range row {
		if row[(i+len(row)-1)%len(row)].V != s.U {
			t.Errorf("no closed walk: %v", row)
		}
	}
}

func TestT7LinkedAndCutIsApartAgain(t *testing.T) {
	next := numbers()
	b := newPair(t, 16)
	for range 12 {
		b.do(call{which: callLink, u: next(16), v: next(16)})
	}
	for u := range 16 {
		for v := range 16 {
			if same, _ := b.x.Same(u, v); same {
				continue
			}
			one, _ := b.x.Walk(u)
			other, _ := b.x.Walk(v)
			b.do(call{which: callLink, u: u, v: v})
			if l, _ := b.x.Walk(v); !sameVertices(l, slices.Concat(one, other)) {
				t.Errorf("linked: %v, of %v and %v", l, one, other)
			}
			b.do(call{which: callCut, u: v, v: u})
			wantWalk(t, b.x, u, one...)
			if l, _ := b.x.Walk(v); !sameVertices(l, other) {
				t.Errorf("cut: %v, was %v", l, other)
			}
		}
	}
	b.look()
}

func sameVertices(l, m []int) bool {
	return slices.Equal(slices.Sorted(slices.Values(l)), slices.Sorted(slices.Values(m)))
}

// numbers are drawn one behind the other, always the same ones.
func numbers() func(below int) int {
	x := uint64(88172645463325252)
	return func(below int) int {
		x ^= x << 13
		x ^= x >> 7
		x ^= x << 17
		return int(x % uint64(below))
	}
}

// someCall is one of the calls below that number, with vertices a little beyond those that there are, and now and then a wrong value.
func someCall(next func(int) int, n, below int) call {
	c := call{which: next(below), u: next(n+2) - 1, v: next(n+2) - 1, x: next(41) - 20, on: next(3) > 0}
	if next(20) == 0 {
		c.x = (1<<40 + next(2)) * (1 - 2*next(2))
	}
	return c
}

// Two are changed alike, but one of them is asked much in between.
func TestAskingLeavesNoTrace(t *testing.T) {
	next := numbers()
	quiet, asked := fresh(t, 9), fresh(t, 9)
	for range 6000 {
		c := someCall(next, 9, callSame)
		if one, other := do(quiet, c), do(asked, c); one != other {
			t.Fatalf("%+v: %s, and %s after questions", c, one, other)
		}
		for range next(5) {
			if q := someCall(next, 9, callsInAll); q.which >= callSame {
				do(asked, q)
			}
		}
	}
	for v := range 9 {
		for which := callSame; which < callsInAll; which++ {
			c := call{which: which, v: v}
			if one, other := do(quiet, c), do(asked, c); one != other {
				t.Errorf("%+v: %s, and %s after questions", c, one, other)
			}
		}
	}
}

func TestManyCallsBesidePlainTours(t *testing.T) {
	next := numbers()
	for _, n := range []int{1, 2, 3, 5, 8, 20, api.MaxVertices} {
		b := newPair(t, n)
		for i := range 4000 {
			c := someCall(next, n, callsInAll)
			switch edges := b.edges(); {
			// Trees grow in one half of the time, and fall apart in the other.
			case i/500%2 == 0 && next(2) == 0:
				c.which = callLink
			case len(edges) > 0 && (i/500%2 == 1 || c.which == callMarkEdge) && next(3) == 0:
				s := edges[next(len(edges))]
				at := next(2)
				c.u, c.v = s[at], s[1-at]
				if c.which != callMarkEdge {
					c.which = callCut
				}
			}
			b.do(c)
			if n < 6 || i%500 == 499 {
				b.look()
			}
			if i%1000 == 777 {
				b.search()
			}
			if t.Failed() {
				t.Fatalf("%d vertices, call %d", n, i)
			}
		}
	}
}

// All orders of a few changes on four vertices, and all that can be asked behind each.
func TestAllOrdersOfFewChanges(t *testing.T) {
	const n = 4
	var choices []call
	for u := range n {
		choices = append(choices, call{which: callReroot, v: u})
		for v := range n {
			if u < v {
				choices = append(choices, call{which: callCut, u: u, v: v})
			}
			if u != v {
				choices = append(choices, call{which: callLink, u: u, v: v})
			}
		}
	}
	many := len(choices)
	for k := range many * many * many {
		b := newPair(t, n)
		b.link([2]int{k % 4, (k + 1) % 4})
		for rest := k; rest > 0; rest /= many {
			b.do(choices[rest%many])
		}
		b.search()
		b.look()
		if t.Failed() {
			t.Fatalf("order %d", k)
		}
	}
}

func TestToursKnowNothingOfOneAnother(t *testing.T) {
	next := numbers()
	one, other := newPair(t, 8), newPair(t, 8)
	for i := range 2000 {
		b := one
		if i%2 == 0 {
			b = other
		}
		b.do(someCall(next, 8, callsInAll))
	}
	one.look()
	other.look()
}
