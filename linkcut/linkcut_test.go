package linkcut_test

import (
	"fmt"
	"math"
	"slices"
	"testing"

	"isthmus/api"
	"isthmus/linkcut"
)

// noVertices are never vertices, of however many there are.
var noVertices = []int{-1, -2, api.MaxVertices, api.MaxVertices + 1, math.MinInt, math.MaxInt, 1 << 32, -1 << 32}

// noIDs may be no edge's.
var noIDs = []int{-1, 1<<40 + 1, math.MinInt, math.MaxInt, -1 << 40, 1 << 62}

// noWeights may be no edge's.
var noWeights = []int{1<<40 + 1, -1<<40 - 1, math.MinInt, math.MaxInt}

// pair is Trees beside plain ones, to which the same is done.
type pair struct {
	t *testing.T
	n int
	x *linkcut.Trees
	p *plain
}

func newPair(t *testing.T, n int) pair {
	t.Helper()
	return pair{t, n, fresh(t, n), newPlain(n)}
}

func fresh(t *testing.T, n int) *linkcut.Trees {
	t.Helper()
	x, e := linkcut.New(n)
	if x == nil || e != api.OK {
		t.Fatalf("New(%d): %v, %d", n, x, e)
	}
	return x
}

// do makes calls to both, which must answer the same.
func (b pair) do(calls ...call) {
	b.t.Helper()
	for _, c := range calls {
		got, want := do(b.x, c), do(b.p, c)
		if got != want {
			b.t.Errorf("call %+v: %s, want %s; the edges: %v, the roots: %v", c, got, want, b.p.edges, b.p.roots)
		}
	}
}

// link makes edges, which must be taken.
func (b pair) link(edges ...api.Edge) {
	b.t.Helper()
	for _, x := range edges {
		wantErr(b.t, fmt.Sprintf("Link of %v", x), b.x.Link(x.U, x.V, x.ID, x.Weight), api.OK)
		wantErr(b.t, fmt.Sprintf("plain Link of %v", x), b.p.Link(x.U, x.V, x.ID, x.Weight), api.OK)
	}
}

// look asks for all that can be known without a change, of the vertices and of those a little beyond them.
func (b pair) look() {
	b.t.Helper()
	for v := -1; v <= b.n; v++ {
		b.do(call{which: callRoot, v: v})
		for u := -1; u <= b.n; u++ {
			for which := callSame; which < callsInAll; which++ {
				b.do(call{which: which, u: u, v: v})
			}
		}
	}
}

func wantErr(t *testing.T, what string, e, want api.Errno) {
	t.Helper()
	if e != want {
		t.Errorf("%s: %d, want %d", what, e, want)
	}
}

func wantRoot(t *testing.T, x *linkcut.Trees, want int, vertices ...int) {
	t.Helper()
	for _, v := range vertices {
		if r, e := x.Root(v); r != want || e != api.OK {
			t.Errorf("Root(%d): %d, %d; want %d", v, r, e, want)
		}
	}
}

func wantSame(t *testing.T, x *linkcut.Trees, u, v int, want bool) {
	t.Helper()
	if same, e := x.Same(u, v); same != want || e != api.OK {
		t.Errorf("Same(%d, %d): %t, %d; want %t", u, v, same, e, want)
	}
}

func wantMost(t *testing.T, x *linkcut.Trees, u, v int, want api.Edge, e api.Errno) {
	t.Helper()
	if m, f := x.Most(u, v); m != want || f != e {
		t.Errorf("Most(%d, %d): %v, %d; want %v, %d", u, v, m, f, want, e)
	}
}

func wantPath(t *testing.T, x *linkcut.Trees, u, v int, want ...int) {
	t.Helper()
	if l, e := x.Path(u, v); !slices.Equal(l, want) || e != api.OK {
		t.Errorf("Path(%d, %d): %v, %d; want %v", u, v, l, e, want)
	}
}

func wantNoPath(t *testing.T, x *linkcut.Trees, u, v int, want api.Errno) {
	t.Helper()
	if l, e := x.Path(u, v); len(l) != 0 || e != want {
		t.Errorf("Path(%d, %d): %v, %d; want none, %d", u, v, l, e, want)
	}
}

// chapterTree is the first example's trees.
func chapterTree(t *testing.T) *linkcut.Trees {
	t.Helper()
	x := fresh(t, 5)
	wantErr(t, "Link(1, 0, 7, 30)", x.Link(1, 0, 7, 30), api.OK)
	wantErr(t, "Link(2, 1, 8, 50)", x.Link(2, 1, 8, 50), api.OK)
	wantErr(t, "Link(3, 1, 9, 50)", x.Link(3, 1, 9, 50), api.OK)
	return x
}

func TestExamples(t *testing.T) {
	x := chapterTree(t)
	wantRoot(t, x, 0, 3)
	wantMost(t, x, 2, 3, api.Edge{ID: 9, U: 3, V: 1, Weight: 50}, api.OK)
	wantMost(t, x, 0, 2, api.Edge{ID: 8, U: 2, V: 1, Weight: 50}, api.OK)
	wantPath(t, x, 2, 0, 8, 7)
	wantPath(t, x, 3, 3)
	wantMost(t, x, 3, 3, api.Edge{}, api.ErrCutPath)
	wantMost(t, x, 0, 4, api.Edge{}, api.ErrCutPath)
	wantErr(t, "Link(3, 0, 10, 1)", x.Link(3, 0, 10, 1), api.ErrCutSame)
	wantErr(t, "Link(4, 4, 10, 1)", x.Link(4, 4, 10, 1), api.ErrCutSame)
	wantErr(t, "Link(4, 0, 9, 1)", x.Link(4, 0, 9, 1), api.ErrCutTwice)

	wantErr(t, "Evert(2)", x.Evert(2), api.OK)
	wantRoot(t, x, 2, 0)
	wantErr(t, "Link(0, 4, 10, -5)", x.Link(0, 4, 10, -5), api.OK)
	wantRoot(t, x, 4, 2)
	wantErr(t, "Cut(8)", x.Cut(8), api.OK)
	wantRoot(t, x, 2, 2)
	wantRoot(t, x, 4, 3)
	wantErr(t, "Cut(8)", x.Cut(8), api.ErrCutEdge)
	wantPath(t, x, 3, 4, 9, 7, 10)
}

func TestL1New(t *testing.T) {
	for _, n := range []int{0, -1, api.MaxVertices + 1, math.MinInt, math.MaxInt, 1 << 32, -1 << 32, 1<<32 + 1} {
		if x, e := linkcut.New(n); x != nil || e != api.ErrArg {
			t.Errorf("New(%d): %v, %d; want nil, %d", n, x, e, api.ErrArg)
		}
	}
	for n := 1; n <= api.MaxVertices; n++ {
		x := fresh(t, n)
		for v := range n {
			wantRoot(t, x, v, v)
			wantPath(t, x, v, v)
			for u := range n {
				wantSame(t, x, u, v, u == v)
			}
		}
		_, e := x.Root(n)
		wantErr(t, "Root beyond the vertices", e, api.ErrCutVertex)
		wantErr(t, "Cut", x.Cut(0), api.ErrCutEdge)
	}
}

// As many edges as there may be: a row, a star and what lies between them, taken away again and made anew.
func TestL1RoomForAllEdges(t *testing.T) {
	for n := 1; n <= api.MaxVertices; n++ {
		b := newPair(t, n)
		for round := range 3 {
			for v := 1; v < n; v++ {
				over := []int{0, v / 2, v - 1}[round]
				b.link(api.Edge{ID: v, U: v, V: over, Weight: v * v % 17})
			}
			b.do(call{which: callPath, u: n - 1, v: 0}, call{which: callMost, u: n / 2, v: n - 1}, call{which: callRoot, v: n - 1})
			if n == api.MaxVertices {
				b.look()
			}
			for v := 1; v < n; v++ {
				b.do(call{which: callCut, id: v*5%n + 1}, call{which: callRoot, v: v})
			}
			for v := 1; v < n; v++ {
				b.do(call{which: callCut, id: v})
			}
		}
		for v := range n {
			wantRoot(t, b.x, v, v)
		}
	}
}

func TestL2Roots(t *testing.T) {
	x := fresh(t, 8)
	for _, c := range []struct {
		u, v, root int
		tree       []int
	}{
		{1, 0, 0, []int{0, 1}},
		{2, 1, 0, []int{0, 1, 2}},
		// 0 was the root: 2's tree is rooted at 2, which hangs below 3.
		{2, 3, 3, []int{0, 1, 2, 3}},
		{4, 5, 5, []int{4, 5}},
		{5, 6, 6, []int{4, 5, 6}},
		// The tree that is hung has its root in the midst; the other one keeps its own, which isn't where it is hung.
		{5, 0, 3, []int{0, 1, 2, 3, 4, 5, 6}},
		{0, 7, 7, []int{0, 1, 2, 3, 4, 5, 6, 7}},
	} {
		wantErr(t, fmt.Sprintf("Link(%d, %d)", c.u, c.v), x.Link(c.u, c.v, 10*c.u+c.v, 0), api.OK)
		wantRoot(t, x, c.root, c.tree...)
	}
	wantPath(t, x, 6, 3, 56, 50, 10, 21, 23)
}

func TestL2Refused(t *testing.T) {
	b := newPair(t, 5)
	b.link(api.Edge{ID: 0, U: 0, V: 1}, api.Edge{ID: 7, U: 2, V: 1, Weight: 3}, api.Edge{ID: 1 << 40, U: 3, V: 4})
	same := [][2]int{{0, 0}, {4, 4}, {0, 1}, {1, 0}, {0, 2}, {2, 0}, {4, 3}}
	apart := [][2]int{{0, 3}, {4, 2}}
	for _, p := range slices.Concat(same, apart) {
		for _, id := range []int{0, 7, 1 << 40} {
			wantErr(t, fmt.Sprintf("Link%v of the ID %d", p, id), b.x.Link(p[0], p[1], id, 0), api.ErrCutTwice)
			for _, weight := range noWeights {
				wantErr(t, fmt.Sprintf("Link%v of the weight %d", p, weight), b.x.Link(p[0], p[1], id, weight), api.ErrArg)
			}
		}
		for _, id := range noIDs {
			wantErr(t, fmt.Sprintf("Link%v of the ID %d", p, id), b.x.Link(p[0], p[1], id, 0), api.ErrArg)
		}
	}
	for _, p := range same {
		wantErr(t, fmt.Sprintf("Link%v", p), b.x.Link(p[0], p[1], 8, 0), api.ErrCutSame)
	}
	for _, v := range append(noVertices, 5) {
		for _, p := range [][2]int{{v, v}, {v, 0}, {0, v}, {v, 4}, {4, v}} {
			for _, id := range append(noIDs, 7, 8) {
				for _, weight := range append(noWeights, 0) {
					wantErr(t, fmt.Sprintf("Link%v", p), b.x.Link(p[0], p[1], id, weight), api.ErrCutVertex)
				}
			}
		}
	}
	b.do(call{which: callCut, id: 8})
	b.look()
}

func TestL2GreatestNumbers(t *testing.T) {
	b := newPair(t, 4)
	b.link(api.Edge{ID: 1 << 40, U: 0, V: 1, Weight: -1 << 40})
	wantMost(t, b.x, 1, 0, api.Edge{ID: 1 << 40, U: 0, V: 1, Weight: -1 << 40}, api.OK)
	b.link(api.Edge{ID: 0, U: 3, V: 2, Weight: 1 << 40}, api.Edge{ID: 3, U: 1, V: 2, Weight: -1 << 40})
	b.look()
	b.do(call{which: callCut, id: 1 << 40}, call{which: callCut, id: 0})
	b.look()
}

func TestL2AnIDAgain(t *testing.T) {
	b := newPair(t, 4)
	b.link(api.Edge{ID: 5, U: 0, V: 1, Weight: 9}, api.Edge{ID: 6, U: 1, V: 2, Weight: 8})
	b.do(call{which: callCut, id: 5})
	b.link(api.Edge{ID: 5, U: 3, V: 2, Weight: 7})
	b.look()
	wantMost(t, b.x, 1, 3, api.Edge{ID: 6, U: 1, V: 2, Weight: 8}, api.OK)
	b.do(call{which: callCut, id: 6}, call{which: callCut, id: 6})
	b.link(api.Edge{ID: 6, U: 3, V: 0, Weight: 7})
	b.look()
}

// someTrees are edges of unlike trees over eight vertices, the last of which stays apart.
func someTrees() [][]api.Edge {
	return [][]api.Edge{
		{{ID: 1, U: 0, V: 1, Weight: 5}, {ID: 2, U: 2, V: 1, Weight: 5}, {ID: 3, U: 2, V: 3, Weight: -5}, {ID: 4, U: 4, V: 3, Weight: 0}, {ID: 5, U: 5, V: 4, Weight: 7}, {ID: 6, U: 5, V: 6, Weight: 5}},
		{{ID: 16, U: 0, V: 1, Weight: 1}, {ID: 15, U: 2, V: 0, Weight: 1}, {ID: 14, U: 0, V: 3, Weight: 1}, {ID: 13, U: 4, V: 0, Weight: 1}, {ID: 12, U: 0, V: 5, Weight: 1}, {ID: 11, U: 6, V: 0, Weight: 1}},
		{{ID: 9, U: 0, V: 1, Weight: -3}, {ID: 8, U: 2, V: 0, Weight: -2}, {ID: 7, U: 3, V: 1, Weight: -2}, {ID: 6, U: 4, V: 1, Weight: -1}, {ID: 5, U: 2, V: 5, Weight: -4}, {ID: 4, U: 6, V: 2, Weight: -2}},
	}
}

func TestL3CutWhereverTheRootIs(t *testing.T) {
	for _, edges := range someTrees() {
		for root := range 7 {
			for _, x := range edges {
				b := newPair(t, 8)
				b.link(edges...)
				b.do(call{which: callEvert, v: root}, call{which: callCut, id: x.ID})
				wantRoot(t, b.x, root, root)
				wantSame(t, b.x, x.U, x.V, false)
				hung := x.U
				if r, _ := b.x.Root(x.U); r == root {
					hung = x.V
				}
				wantRoot(t, b.x, hung, hung)
				b.look()
				b.do(call{which: callCut, id: x.ID})
				for _, y := range edges {
					b.do(call{which: callCut, id: y.ID}, call{which: callRoot, v: y.U}, call{which: callRoot, v: y.V})
				}
				b.look()
			}
		}
	}
}

func TestL3Refused(t *testing.T) {
	b := newPair(t, 3)
	b.link(api.Edge{ID: 1, U: 0, V: 1}, api.Edge{ID: 3, U: 2, V: 1})
	for _, id := range append(noIDs, 0, 2, 4, 1<<40, 1+1<<32) {
		wantErr(t, fmt.Sprintf("Cut(%d)", id), b.x.Cut(id), api.ErrCutEdge)
	}
	b.look()
}

func TestL4Evert(t *testing.T) {
	for _, edges := range someTrees() {
		b := newPair(t, 8)
		b.link(edges...)
		for _, v := range []int{0, 3, 3, 5, 2, 4, 1, 7, 6, 0, 6} {
			b.do(call{which: callEvert, v: v})
			wantRoot(t, b.x, v, v)
			if v != 7 {
				wantRoot(t, b.x, v, 0, 1, 2, 3, 4, 5, 6)
			}
			wantRoot(t, b.x, 7, 7)
			b.look()
		}
	}
}

func TestL4AndL5NoSuchVertex(t *testing.T) {
	b := newPair(t, 3)
	b.link(api.Edge{ID: 1, U: 0, V: 1})
	for _, v := range append(noVertices, 3) {
		wantErr(t, "Evert", b.x.Evert(v), api.ErrCutVertex)
		if r, e := b.x.Root(v); r != 0 || e != api.ErrCutVertex {
			t.Errorf("Root(%d): %d, %d", v, r, e)
		}
		for _, p := range [][2]int{{v, v}, {v, 0}, {0, v}, {v, 2}, {2, v}} {
			if same, e := b.x.Same(p[0], p[1]); same || e != api.ErrCutVertex {
				t.Errorf("Same%v: %t, %d", p, same, e)
			}
			wantMost(t, b.x, p[0], p[1], api.Edge{}, api.ErrCutVertex)
			wantNoPath(t, b.x, p[0], p[1], api.ErrCutVertex)
		}
	}
	b.look()
}

func TestL5HeaviestOfOneWeight(t *testing.T) {
	x := fresh(t, 4)
	for _, y := range []api.Edge{{ID: 20, U: 0, V: 1, Weight: -7}, {ID: 3, U: 2, V: 1, Weight: -6}, {ID: 10, U: 2, V: 3, Weight: -7}} {
		wantErr(t, "Link", x.Link(y.U, y.V, y.ID, y.Weight), api.OK)
	}
	wantMost(t, x, 0, 3, api.Edge{ID: 3, U: 2, V: 1, Weight: -6}, api.OK)
	wantErr(t, "Cut", x.Cut(3), api.OK)
	wantErr(t, "Link", x.Link(1, 2, 3, -7), api.OK)
	for _, p := range [][2]int{{0, 3}, {3, 0}, {1, 0}, {0, 2}} {
		wantMost(t, x, p[0], p[1], api.Edge{ID: 20, U: 0, V: 1, Weight: -7}, api.OK)
	}
	wantMost(t, x, 1, 3, api.Edge{ID: 10, U: 2, V: 3, Weight: -7}, api.OK)
	wantMost(t, x, 2, 1, api.Edge{ID: 3, U: 1, V: 2, Weight: -7}, api.OK)
}

func TestL5NoEdgeBetween(t *testing.T) {
	x := chapterTree(t)
	for v := range 5 {
		wantMost(t, x, v, v, api.Edge{}, api.ErrCutPath)
		wantPath(t, x, v, v)
		if v != 4 {
			wantMost(t, x, v, 4, api.Edge{}, api.ErrCutPath)
			wantMost(t, x, 4, v, api.Edge{}, api.ErrCutPath)
			wantNoPath(t, x, v, 4, api.ErrCutPath)
			wantNoPath(t, x, 4, v, api.ErrCutPath)
		}
	}
}

func TestL5PathsFromTheFirstOn(t *testing.T) {
	b := newPair(t, api.MaxVertices)
	var ids []int
	for v := 1; v < b.n; v++ {
		id := v * 37 % 101
		b.link(api.Edge{ID: id, U: v, V: v - 1, Weight: v})
		ids = append(ids, id)
	}
	for _, root := range []int{0, 20, 63} {
		b.do(call{which: callEvert, v: root})
		wantPath(t, b.x, 0, 63, ids...)
		wantPath(t, b.x, 10, 30, ids[10:30]...)
		back := slices.Clone(ids)
		slices.Reverse(back)
		wantPath(t, b.x, 63, 0, back...)
		wantRoot(t, b.x, root, 0, 31, 63)
	}
}

func TestL5AnswersAreNewMemory(t *testing.T) {
	b := newPair(t, 4)
	b.link(api.Edge{ID: 1, U: 0, V: 1}, api.Edge{ID: 2, U: 1, V: 2}, api.Edge{ID: 3, U: 2, V: 3})
	one, _ := b.x.Path(0, 3)
	other, _ := b.x.Path(0, 3)
	for _, l := range [][]int{one[:cap(one)], append(one, 77)} {
		for i := range l {
			l[i] = 99
		}
	}
	b.do(call{which: callCut, id: 2})
	if !slices.Equal(other, []int{1, 2, 3}) {
		t.Errorf("an older answer became %v", other)
	}
	b.look()
}

// Edges that came in all orders, with roots laid in between, and edges that were there for a while: all is told alike but the roots.
func TestL6NoOrderIsTold(t *testing.T) {
	next := numbers()
	for _, edges := range someTrees() {
		first := fresh(t, 8)
		for _, y := range edges {
			first.Link(y.U, y.V, y.ID, y.Weight)
		}
		want := told(first, 8)
		for _, order := range orders(edges) {
			x := fresh(t, 8)
			for _, y := range order {
				if next(2) == 0 {
					x.Evert(next(8))
				}
				if u := next(8); x.Link(u, 7, 99, 50) == api.OK {
					x.Evert(next(8))
					wantErr(t, "Cut(99)", x.Cut(99), api.OK)
				}
				wantErr(t, "Link", x.Link(y.U, y.V, y.ID, y.Weight), api.OK)
			}
			if got := told(x, 8); got != want {
				t.Fatalf("in the order %v: %s, want %s", order, got, want)
			}
		}
	}
}

// told is all that Same, Most and Path answer, as a text.
func told(x trees, n int) string {
	var all []string
	for u := range n {
		for v := range n {
			for which := callSame; which < callsInAll; which++ {
				all = append(all, do(x, call{which: which, u: u, v: v}))
			}
		}
	}
	return fmt.Sprint(all)
}

func orders(l []api.Edge) [][]api.Edge {
	if len(l) == 0 {
		return [][]api.Edge{nil}
	}
	var all [][]api.Edge
	for i, first := range l {
		for _, rest := range orders(slices.Concat(l[:i], l[i+1:])) {
			all = append(all, append([]api.Edge{first}, rest...))
		}
	}
	return all
}

// numbers are drawn one behind the other, always the same ones.
func numbers() func(below int) int {
	x := uint64(88172645463325252)
	return func(below int) int {
		x ^= x << 13
		x ^= x >> 7
		x ^= x << 17
		return int(x % uint64(below))
	}
}

// someCall is one of the calls from one on and below another, with vertices and IDs a little beyond those that there are, few weights, and now and then a wrong one.
func someCall(next func(int) int, n, from, below int) call {
	c := call{which: from + next(below-from), u: next(n+2) - 1, v: next(n+2) - 1, id: next(2*n+3) - 1, weight: next(7) - 3}
	if next(20) == 0 {
		c.weight = (1<<40 + next(2)) * (1 - 2*next(2))
	}
	return c
}

// Two are changed alike, but one of them is asked much in between.
func TestL6AskingLeavesNoTrace(t *testing.T) {
	next := numbers()
	quiet, asked := fresh(t, 9), fresh(t, 9)
	for range 6000 {
		c := someCall(next, 9, callLink, callRoot)
		if one, other := do(quiet, c), do(asked, c); one != other {
			t.Fatalf("%+v: %s, and %s after questions", c, one, other)
		}
		for range next(5) {
			do(asked, someCall(next, 9, callRoot, callsInAll))
		}
	}
	for v := range 9 {
		c := call{which: callRoot, v: v}
		if one, other := do(quiet, c), do(asked, c); one != other {
			t.Errorf("%+v: %s, and %s after questions", c, one, other)
		}
	}
	if one, other := told(quiet, 9), told(asked, 9); one != other {
		t.Errorf("%s, and %s after questions", one, other)
	}
}

func TestL6QuestionsKeepRoots(t *testing.T) {
	for _, edges := range someTrees() {
		b := newPair(t, 8)
		b.link(edges...)
		for root := range 7 {
			b.do(call{which: callEvert, v: root})
			for u := range 7 {
				for v := range 7 {
					b.do(call{which: callMost, u: u, v: v}, call{which: callRoot, v: u}, call{which: callPath, u: u, v: v}, call{which: callRoot, v: v}, call{which: callSame, u: u, v: v}, call{which: callRoot, v: root})
				}
			}
		}
	}
}

func TestManyCallsBesidePlainTrees(t *testing.T) {
	next := numbers()
	for _, n := range []int{1, 2, 3, 5, 8, 20, api.MaxVertices} {
		b := newPair(t, n)
		for i := range 4000 {
			c := someCall(next, n, callLink, callsInAll)
			// Trees grow in one half of the time, and fall apart in the other.
			switch grow, some := i/500%2 == 0, next(3) == 0; {
			case grow && some:
				c.which = callLink
			case !grow && some && len(b.p.edges) > 0:
				c.which, c.id = callCut, b.p.edges[next(len(b.p.edges))].ID
			}
			b.do(c)
			if n < 6 || i%500 == 499 {
				b.look()
			}
			if t.Failed() {
				t.Fatalf("%d vertices, call %d", n, i)
			}
		}
	}
}

// All orders of a few changes on four vertices, and all that can be asked behind each.
func TestAllOrdersOfFewChanges(t *testing.T) {
	const n = 4
	var choices []call
	for u := range n {
		choices = append(choices, call{which: callEvert, v: u}, call{which: callCut, id: u})
		for v := range n {
			if u != v {
				choices = append(choices, call{which: callLink, u: u, v: v, id: (u + v) % 4, weight: v % 2})
			}
		}
	}
	many := len(choices)
	for k := range many * many * many {
		b := newPair(t, n)
		b.link(api.Edge{ID: 2, U: k % 4, V: (k + 1) % 4}, api.Edge{ID: 0, U: (k + 2) % 4, V: (k + 1) % 4})
		for rest := k; rest > 0; rest /= many {
			b.do(choices[rest%many])
		}
		b.look()
		if t.Failed() {
			t.Fatalf("order %d", k)
		}
	}
}

func TestTreesKnowNothingOfOneAnother(t *testing.T) {
	next := numbers()
	one, other := newPair(t, 8), newPair(t, 8)
	for i := range 2000 {
		b := one
		if i%2 == 0 {
			b = other
		}
		b.do(someCall(next, 8, callLink, callsInAll))
	}
	one.look()
	other.look()
}
