package msf_test

import (
	"fmt"
	"math"
	"slices"
	"testing"

	"isthmus/api"
	"isthmus/msf"
)

// noVertices are never vertices, of however many there are.
var noVertices = []int{-1, -2, api.MaxVertices, api.MaxVertices + 1, math.MinInt, math.MaxInt, 1 << 32, -1 << 32}

// noIDs may be no edge's.
var noIDs = []int{-1, 1<<40 + 1, math.MinInt, math.MaxInt, -1 << 40, 1 << 62}

// noWeights may be no edge's.
var noWeights = []int{1<<40 + 1, -1<<40 - 1, math.MinInt, math.MaxInt}

// pair is a Forest beside a plain graph, to which the same is done.
type pair struct {
	t *testing.T
	n int
	x *msf.Forest
	p *plain
}

func newPair(t *testing.T, n int) pair {
	t.Helper()
	return pair{t, n, fresh(t, n), newPlain(n)}
}

func fresh(t *testing.T, n int) *msf.Forest {
	t.Helper()
	x, e := msf.New(n)
	if x == nil || e != api.OK {
		t.Fatalf("New(%d): %v, %d", n, x, e)
	}
	return x
}

// do makes calls to both, which must answer the same, and holds against each change how much of the forest it changes.
func (b pair) do(calls ...call) {
	b.t.Helper()
	for _, c := range calls {
		if c.which >= callIn {
			b.both(c)
			continue
		}
		ahead := b.x.All()
		b.both(c)
		b.step(c, ahead, b.x.All())
	}
}

func (b pair) both(c call) {
	b.t.Helper()
	if got, want := do(b.x, c), do(b.p, c); got != want {
		b.t.Errorf("call %+v: %s, want %s; the edges: %v", c, got, want, b.p.edges)
	}
}

// step is what M5 says of a change: beside the edge that comes or goes one at most changes its place.
func (b pair) step(c call, ahead, now []int) {
	b.t.Helper()
	out, in := without(without(ahead, now), []int{c.id}), without(without(now, ahead), []int{c.id})
	switch {
	case c.which == callInsert && (len(out) > 1 || len(in) > 0):
		b.t.Errorf("M5: call %+v took %v out, %v in", c, out, in)
	case c.which == callDelete && (len(out) > 0 || len(in) > 1):
		b.t.Errorf("M5: call %+v took %v out, %v in", c, out, in)
	}
	if want := b.p.All(); !slices.Equal(now, want) {
		b.t.Errorf("M3: behind %+v: %v, want %v; the edges: %v", c, now, want, b.p.edges)
	}
}

// without is those of a list that are not of another one.
func without(list, other []int) []int {
	return slices.DeleteFunc(slices.Clone(list), func(id int) bool { return slices.Contains(other, id) })
}

// put makes edges, which must be taken.
func (b pair) put(edges ...api.Edge) {
	b.t.Helper()
	for _, x := range edges {
		many := len(b.p.edges)
		b.do(call{callInsert, x.ID, x.U, x.V, x.Weight})
		if len(b.p.edges) == many {
			b.t.Errorf("%v was refused", x)
		}
	}
}

// look asks for all that can be known, of the vertices and of those a little beyond them.
func (b pair) look() {
	b.t.Helper()
	b.do(call{which: callWeight}, call{which: callAll})
	for _, x := range b.p.edges {
		b.do(call{which: callIn, id: x.ID}, call{which: callIn, id: x.ID + 1})
	}
	for v := -1; v <= b.n; v++ {
		for u := -1; u <= b.n; u++ {
			b.do(call{which: callBottleneck, u: u, v: v})
		}
	}
}

func wantErr(t *testing.T, what string, e, want api.Errno) {
	t.Helper()
	if e != want {
		t.Errorf("%s: %d, want %d", what, e, want)
	}
}

func wantForest(t *testing.T, x *msf.Forest, weight int, want ...int) {
	t.Helper()
	if ids, sum := x.All(), x.Weight(); !slices.Equal(ids, want) || sum != weight {
		t.Errorf("the forest is %v, weighs %d; want %v, %d", ids, sum, want, weight)
	}
}

func wantIn(t *testing.T, x *msf.Forest, id int, want bool) {
	t.Helper()
	if in, e := x.In(id); in != want || e != api.OK {
		t.Errorf("In(%d): %t, %d; want %t", id, in, e, want)
	}
}

func wantNoEdge(t *testing.T, x *msf.Forest, id int) {
	t.Helper()
	if in, e := x.In(id); in || e != api.ErrMsfEdge {
		t.Errorf("In(%d): %t, %d", id, in, e)
	}
}

func wantBottleneck(t *testing.T, x *msf.Forest, u, v int, want api.Edge) {
	t.Helper()
	if b, e := x.Bottleneck(u, v); b != want || e != api.OK {
		t.Errorf("Bottleneck(%d, %d): %v, %d; want %v", u, v, b, e, want)
	}
}

func wantNoBottleneck(t *testing.T, x *msf.Forest, u, v int, want api.Errno) {
	t.Helper()
	if b, e := x.Bottleneck(u, v); b != (api.Edge{}) || e != want {
		t.Errorf("Bottleneck(%d, %d): %v, %d; want %d", u, v, b, e, want)
	}
}

func TestExamples(t *testing.T) {
	x := fresh(t, 4)
	wantErr(t, "Insert(11, 0, 1, 4)", x.Insert(11, 0, 1, 4), api.OK)
	wantErr(t, "Insert(12, 1, 2, 7)", x.Insert(12, 1, 2, 7), api.OK)
	wantErr(t, "Insert(13, 0, 2, 9)", x.Insert(13, 0, 2, 9), api.OK)
	wantForest(t, x, 11, 11, 12)
	wantBottleneck(t, x, 0, 2, api.Edge{ID: 12, U: 1, V: 2, Weight: 7})
	wantErr(t, "Insert(14, 2, 0, 4)", x.Insert(14, 2, 0, 4), api.OK)
	wantForest(t, x, 8, 11, 14)
	wantIn(t, x, 12, false)
	wantBottleneck(t, x, 0, 1, api.Edge{ID: 11, U: 0, V: 1, Weight: 4})
	wantBottleneck(t, x, 1, 2, api.Edge{ID: 14, U: 2, V: 0, Weight: 4})
	wantNoBottleneck(t, x, 0, 3, api.ErrMsfPath)
	wantNoBottleneck(t, x, 1, 1, api.ErrMsfPath)

	wantErr(t, "Delete(11)", x.Delete(11), api.OK)
	wantForest(t, x, 11, 12, 14)
	wantErr(t, "Delete(12)", x.Delete(12), api.OK)
	wantForest(t, x, 4, 14)
	wantErr(t, "Delete(12) again", x.Delete(12), api.ErrMsfEdge)
	wantErr(t, "Insert(13, 1, 1, 0)", x.Insert(13, 1, 1, 0), api.ErrMsfTwice)
	wantErr(t, "Insert(15, 1, 1, 0)", x.Insert(15, 1, 1, 0), api.ErrMsfLoop)
	wantErr(t, "Insert(-1, 1, 1, 0)", x.Insert(-1, 1, 1, 0), api.ErrArg)
	wantErr(t, "Insert(-1, 1, 4, 0)", x.Insert(-1, 1, 4, 0), api.ErrMsfVertex)
	wantForest(t, x, 4, 14)
}

func TestM1New(t *testing.T) {
	for _, n := range []int{0, -1, api.MaxVertices + 1, math.MinInt, math.MaxInt, 1 << 32, -1 << 32, 1<<32 + 1} {
		if x, e := msf.New(n); x != nil || e != api.ErrArg {
			t.Errorf("New(%d): %v, %d; want nil, %d", n, x, e, api.ErrArg)
		}
	}
	for n := 1; n <= api.MaxVertices; n++ {
		x := fresh(t, n)
		wantForest(t, x, 0)
		for v := range n {
			for u := range n {
				wantNoBottleneck(t, x, u, v, api.ErrMsfPath)
			}
		}
		wantNoBottleneck(t, x, n, n, api.ErrMsfVertex)
		wantNoBottleneck(t, x, 0, n, api.ErrMsfVertex)
		wantErr(t, "Insert beyond the vertices", x.Insert(0, 0, n, 0), api.ErrMsfVertex)
		wantErr(t, "Delete", x.Delete(0), api.ErrMsfEdge)
		wantNoEdge(t, x, 0)
	}
}

// fourEdges are of five vertices; one of them is not of the forest.
func fourEdges() []api.Edge {
	return []api.Edge{{ID: 0, U: 0, V: 1, Weight: -5}, {ID: 7, U: 2, V: 1, Weight: 1 << 40}, {ID: 1 << 40, U: 3, V: 4, Weight: -1 << 40}, {ID: 8, U: 2, V: 0, Weight: 0}}
}

// refused asks for what may not be, of five vertices and the edges 0, 7, 8 and the greatest, but not 9.
func refused(b pair) {
	b.t.Helper()
	insert := func(want api.Errno, id, u, v, weight int) {
		b.t.Helper()
		wantErr(b.t, fmt.Sprintf("Insert(%d, %d, %d, %d)", id, u, v, weight), b.x.Insert(id, u, v, weight), want)
	}
	for _, p := range [][2]int{{0, 0}, {4, 4}, {0, 1}, {1, 0}, {0, 3}, {4, 2}} {
		for _, id := range []int{0, 7, 8, 1 << 40} {
			insert(api.ErrMsfTwice, id, p[0], p[1], -9)
			insert(api.ErrMsfTwice, id, p[0], p[1], 1<<40)
			insert(api.ErrMsfTwice, id, p[0], p[1], -1<<40)
		}
		for _, id := range noIDs {
			insert(api.ErrArg, id, p[0], p[1], 1)
			insert(api.ErrArg, id, p[0], p[1], 1<<40+1)
		}
		for _, weight := range noWeights {
			insert(api.ErrArg, 7, p[0], p[1], weight)
			insert(api.ErrArg, 9, p[0], p[1], weight)
		}
	}
	for v := range 5 {
		insert(api.ErrMsfLoop, 9, v, v, -1)
	}
	for _, v := range append(noVertices, 5) {
		for _, p := range [][2]int{{v, v}, {v, 0}, {0, v}, {v, 4}, {4, v}} {
			for _, id := range append(noIDs, 7, 9) {
				insert(api.ErrMsfVertex, id, p[0], p[1], 3)
				insert(api.ErrMsfVertex, id, p[0], p[1], 1<<40+1)
			}
		}
	}
	for _, id := range append(noIDs, 1, 9, 1<<40-1, 7+1<<32) {
		wantErr(b.t, fmt.Sprintf("Delete(%d)", id), b.x.Delete(id), api.ErrMsfEdge)
		wantNoEdge(b.t, b.x, id)
	}
}

func TestM2Refused(t *testing.T) {
	b := newPair(t, 5)
	b.put(fourEdges()...)
	refused(b)
	b.look()
	b.put(api.Edge{ID: 9, U: 4, V: 0, Weight: 1 << 40})
	b.look()
}

func TestM2Full(t *testing.T) {
	b := newPair(t, 5)
	b.put(fourEdges()...)
	for i := range api.MaxEdges - 4 {
		b.put(api.Edge{ID: 100 + i, U: i % 3, V: (i + 1) % 3, Weight: i % 7})
	}
	for _, weight := range []int{-9, 9, 1 << 40, -1 << 40} {
		wantErr(t, "Insert(9, 0, 4)", b.x.Insert(9, 0, 4, weight), api.ErrMsfFull)
		wantErr(t, "Insert(9, 0, 1)", b.x.Insert(9, 0, 1, weight), api.ErrMsfFull)
	}
	refused(b)
	wantNoEdge(t, b.x, 9)
	b.look()
	b.do(call{which: callDelete, id: 150}, call{callInsert, 9, 0, 4, 3}, call{callInsert, 150, 0, 4, 2})
	b.look()
	for len(b.p.edges) > 0 {
		b.do(call{which: callDelete, id: b.p.edges[0].ID}, call{which: callWeight})
	}
	wantForest(t, b.x, 0)
}

func TestM2AnIDAgain(t *testing.T) {
	b := newPair(t, 4)
	b.put(api.Edge{ID: 5, U: 0, V: 1, Weight: 3}, api.Edge{ID: 6, U: 1, V: 2, Weight: 8}, api.Edge{ID: 1 << 40, U: 2, V: 0, Weight: 5})
	for i, id := range []int{5, 1 << 40, 6} {
		b.do(call{which: callDelete, id: id}, call{which: callDelete, id: id})
		wantNoEdge(t, b.x, id)
		b.put(api.Edge{ID: id, U: 3, V: i, Weight: -i})
		b.look()
	}
}

// Of one weight that of the greater ID is the heavier one, whichever came first and whichever ends are named first.
func TestM3SeveralBetweenTwo(t *testing.T) {
	for first := range 5 {
		b := newPair(t, 3)
		for i := range 5 {
			id := (first + 2*i) % 5
			b.put(api.Edge{ID: id, U: id % 2, V: 1 - id%2, Weight: 6 - id/2*2})
		}
		for _, id := range []int{4, 2, 3, 0, 1} {
			wantForest(t, b.x, 6-id/2*2, id)
			wantBottleneck(t, b.x, 0, 1, api.Edge{ID: id, U: id % 2, V: 1 - id%2, Weight: 6 - id/2*2})
			b.do(call{which: callDelete, id: id})
		}
		wantForest(t, b.x, 0)
		wantNoBottleneck(t, b.x, 0, 1, api.ErrMsfPath)
	}
}

// The greatest weights of all, of as many edges as a forest may have.
func TestM3WeightAtItsEdges(t *testing.T) {
	for _, weight := range []int{1 << 40, -1 << 40} {
		b := newPair(t, api.MaxVertices)
		for v := 1; v < api.MaxVertices; v++ {
			b.put(api.Edge{ID: v, U: v - 1, V: v, Weight: weight})
			if sum := b.x.Weight(); sum != v*weight {
				t.Errorf("%d edges weigh %d, want %d", v, sum, v*weight)
			}
		}
		wantBottleneck(t, b.x, 0, 63, api.Edge{ID: 63, U: 62, V: 63, Weight: weight})
		b.put(api.Edge{ID: 64, U: 63, V: 0, Weight: -weight})
		b.put(api.Edge{ID: 65, U: 63, V: 0, Weight: weight})
		b.look()
	}
}

func TestM4NoSuchVertex(t *testing.T) {
	b := newPair(t, 3)
	b.put(api.Edge{ID: 1, U: 2, V: 1, Weight: 4})
	for _, v := range append(noVertices, 3) {
		for _, p := range [][2]int{{v, v}, {v, 0}, {0, v}, {v, 2}, {2, v}} {
			wantNoBottleneck(t, b.x, p[0], p[1], api.ErrMsfVertex)
		}
	}
	b.look()
}

// An edge that was out of the forest and comes into it is told as Insert was given it.
func TestM4AsItWasGiven(t *testing.T) {
	b := newPair(t, 3)
	b.put(api.Edge{ID: 1, U: 2, V: 0, Weight: 1}, api.Edge{ID: 2, U: 2, V: 0, Weight: 2}, api.Edge{ID: 3, U: 0, V: 2, Weight: 3})
	for id := 1; id <= 3; id++ {
		want := []api.Edge{{ID: 1, U: 2, V: 0, Weight: 1}, {ID: 2, U: 2, V: 0, Weight: 2}, {ID: 3, U: 0, V: 2, Weight: 3}}[id-1]
		wantBottleneck(t, b.x, 0, 2, want)
		wantBottleneck(t, b.x, 2, 0, want)
		b.do(call{which: callDelete, id: id})
	}
	b.put(api.Edge{ID: 5, U: 2, V: 0, Weight: 5}, api.Edge{ID: 4, U: 0, V: 2, Weight: 4})
	wantBottleneck(t, b.x, 2, 0, api.Edge{ID: 4, U: 0, V: 2, Weight: 4})
	b.do(call{which: callDelete, id: 4})
	wantBottleneck(t, b.x, 0, 2, api.Edge{ID: 5, U: 2, V: 0, Weight: 5})
}

// someGraphs are edges of unlike graphs over six vertices, some of one weight.
func someGraphs() [][]api.Edge {
	lists := [][][3]int{
		{{0, 1, 5}, {1, 2, 5}, {2, 3, 5}, {3, 4, 5}, {4, 5, 5}, {5, 0, 5}},
		{{0, 1, 3}, {1, 2, -1}, {2, 0, 2}, {3, 4, 7}, {4, 5, 7}, {5, 3, 1}, {2, 3, 9}, {5, 0, 8}},
		{{0, 5, 1}, {5, 0, 1}, {0, 4, 0}, {4, 5, 2}, {4, 3, 6}, {3, 0, 4}, {1, 2, -3}, {2, 1, -4}},
		{{0, 1, 4}, {0, 2, 3}, {0, 3, 2}, {0, 4, 1}, {1, 2, 4}, {2, 3, 3}, {3, 4, 2}, {4, 1, 1}},
		{{0, 1, 1}, {0, 2, 2}, {0, 3, 3}, {1, 2, 3}, {1, 3, 2}, {2, 3, 1}, {3, 4, 9}, {4, 3, 8}},
	}
	var all [][]api.Edge
	for _, list := range lists {
		var edges []api.Edge
		for i, p := range list {
			edges = append(edges, api.Edge{ID: (5*i + 3) % 11, U: p[0], V: p[1], Weight: p[2]})
		}
		all = append(all, edges)
	}
	return all
}

// ways are all those between two vertices that come to none twice, each as its edges.
func ways(edges []api.Edge, u, v int, been ...int) [][]api.Edge {
	if u == v {
		return [][]api.Edge{nil}
	}
	var all [][]api.Edge
	been = append(been, u)
	for _, x := range edges {
		next := x.U + x.V - u
		if (x.U != u && x.V != u) || slices.Contains(been, next) {
			continue
		}
		for _, rest := range ways(edges, next, v, been...) {
			all = append(all, append([]api.Edge{x}, rest...))
		}
	}
	return all
}

// An edge is of the forest, if it is not the heaviest one of any ring: all rings are gone through.
func TestM3RingsDecide(t *testing.T) {
	for _, edges := range someGraphs() {
		x := fresh(t, 6)
		for _, y := range edges {
			x.Insert(y.ID, y.U, y.V, y.Weight)
		}
		for i, y := range edges {
			want := true
			for _, way := range ways(slices.Delete(slices.Clone(edges), i, i+1), y.U, y.V) {
				if byWeight(slices.MaxFunc(way, byWeight), y) < 0 {
					want = false
				}
			}
			wantIn(t, x, y.ID, want)
		}
	}
}

// All ways between each two vertices are gone through: on each lies the bottleneck or a heavier edge, and on one nothing heavier.
func TestM5EveryWayHasTheBottleneck(t *testing.T) {
	for _, edges := range someGraphs() {
		x := fresh(t, 6)
		for _, y := range edges {
			x.Insert(y.ID, y.U, y.V, y.Weight)
		}
		for k := range 36 {
			u, v := k/6, k%6
			all := ways(edges, u, v)
			if u == v || len(all) == 0 {
				wantNoBottleneck(t, x, u, v, api.ErrMsfPath)
				continue
			}
			var most []api.Edge
			for _, way := range all {
				most = append(most, slices.MaxFunc(way, byWeight))
			}
			wantBottleneck(t, x, u, v, slices.MinFunc(most, byWeight))
		}
	}
}

// All choices of edges are gone through that make no ring and join all that can be joined.
func TestM5NoChoiceWeighsLess(t *testing.T) {
	for _, edges := range someGraphs() {
		x := fresh(t, 6)
		for _, y := range edges {
			x.Insert(y.ID, y.U, y.V, y.Weight)
		}
		ids, weight, met := x.All(), x.Weight(), false
		for choice := range 1 << len(edges) {
			var some []int
			sum, ring, joined := 0, false, newGroups(6)
			for i, y := range edges {
				if choice>>i&1 == 1 {
					some, sum = append(some, y.ID), sum+y.Weight
					ring = !joined.join(y.U, y.V) || ring
				}
			}
			if ring || slices.ContainsFunc(edges, func(y api.Edge) bool { return joined.of(y.U) != joined.of(y.V) }) {
				continue
			}
			slices.Sort(some)
			met = met || slices.Equal(some, ids)
			if sum < weight {
				t.Errorf("M5: %v weighs %d, %v weighs %d", ids, weight, some, sum)
			}
		}
		if !met {
			t.Errorf("M5: %v makes a ring, or joins too little, of %v", ids, edges)
		}
	}
}

// Edges that came in all orders and had company for a while: the forest is the same.
func TestM5NoOrderIsTold(t *testing.T) {
	next := numbers()
	for _, edges := range someGraphs() {
		first := fresh(t, 6)
		for _, y := range edges {
			first.Insert(y.ID, y.U, y.V, y.Weight)
		}
		want := told(first, 6)
		for range 300 {
			x := fresh(t, 6)
			rest := slices.Clone(edges)
			for i := 0; len(rest) > 0; i++ {
				k := next(len(rest))
				y := rest[k]
				wantErr(t, "Insert", x.Insert(y.ID, y.U, y.V, y.Weight), api.OK)
				wantErr(t, "Insert", x.Insert(100+i, i%6, (i+1+next(5))%6, next(12)-3), api.OK)
				rest = slices.Delete(rest, k, k+1)
			}
			for i := range edges {
				wantErr(t, "Delete", x.Delete(100+i), api.OK)
			}
			if got := told(x, 6); got != want {
				t.Fatalf("%v: %s, want %s", edges, got, want)
			}
		}
	}
}

// told is all that Weight, All and Bottleneck answer, as a text.
func told(x graph, n int) string {
	all := []string{do(x, call{which: callWeight}), do(x, call{which: callAll})}
	for v := range n {
		for u := range n {
			all = append(all, do(x, call{which: callBottleneck, u: u, v: v}))
		}
	}
	return fmt.Sprint(all)
}

// numbers are drawn one behind the other, always the same ones.
func numbers() func(below int) int {
	x := uint64(88172645463325252)
	return func(below int) int {
		x ^= x << 13
		x ^= x >> 7
		x ^= x << 17
		return int(x % uint64(below))
	}
}

// someCall is one of the calls from one on and below another, with vertices and IDs a little beyond those that there are, and few weights.
func someCall(next func(int) int, n, from, below int) call {
	return call{from + next(below-from), next(3*n+5) - 1, next(n+2) - 1, next(n+2) - 1, next(9) - 4}
}

// Some are changed alike, but they are asked more or less in between, and more or less is refused.
func TestAskingLeavesNoTrace(t *testing.T) {
	const n = 9
	next := numbers()
	var all []*msf.Forest
	for range 5 {
		all = append(all, fresh(t, n))
	}
	for i := range 1500 {
		c := someCall(next, n, callInsert, callIn)
		want := do(all[0], c)
		for k, x := range all[1:] {
			if got := do(x, c); got != want {
				t.Fatalf("%+v: %s, and %s after questions", c, want, got)
			}
			for range k {
				do(x, someCall(next, n, callIn, callsInAll))
				x.Insert(next(50), -next(2), n, 0)
				x.Insert(next(50), 0, 1, -1<<40-1)
				x.Delete(1000)
			}
		}
		if i%50 != 49 {
			continue
		}
		for _, x := range all[1:] {
			if got, want := told(x, n), told(all[0], n); got != want {
				t.Fatalf("call %d: %s, and %s after questions", i, want, got)
			}
		}
	}
}

// What All gave is its owner's: no other answer is changed by what is done to it.
func TestAllIsNewMemory(t *testing.T) {
	b := newPair(t, 5)
	b.put(fourEdges()...)
	one, other := b.x.All(), b.x.All()
	for i := range one {
		one[i] = -1
	}
	_ = append(one[:1], -2, -3, -4)
	if want := b.p.All(); !slices.Equal(other, want) {
		t.Errorf("All: %v, want %v", other, want)
	}
	b.look()
}

func TestManyCallsBesideAPlainGraph(t *testing.T) {
	next := numbers()
	for _, n := range []int{1, 2, 3, 5, 8, 20, api.MaxVertices} {
		b := newPair(t, n)
		for i := range 2500 {
			c := someCall(next, n, callInsert, callsInAll)
			if next(3) == 0 {
				c.weight = next(2001) - 1000
			}
			// Edges come in one half of the time, and go in the other; most are between neighbours.
			switch grow, some := i/250%2 == 0, next(3) > 0; {
			case grow && some:
				c.which = callInsert
				if next(4) > 0 {
					c.v = c.u + 1 + next(2)
				}
			case !grow && some && len(b.p.edges) > 0:
				c.which, c.id = callDelete, b.p.edges[next(len(b.p.edges))].ID
			}
			b.do(c)
			if n < 5 || i%500 == 249 {
				b.look()
			}
			if t.Failed() {
				t.Fatalf("%d vertices, call %d", n, i)
			}
		}
	}
}

// All orders of a few changes on four vertices, and all that can be asked behind each.
func TestAllOrdersOfFewChanges(t *testing.T) {
	const n = 4
	var choices []call
	for id := range 5 {
		choices = append(choices, call{which: callDelete, id: id})
		for u := range n {
			choices = append(choices, call{callInsert, id, u, (u + 1 + id%2) % n, (u + id) % 3})
		}
	}
	many := len(choices)
	for k := range many * many * many {
		b := newPair(t, n)
		b.put(api.Edge{ID: 4, U: 0, V: 1, Weight: 1}, api.Edge{ID: 2, U: 1, V: 2, Weight: 1}, api.Edge{ID: 0, U: 2, V: 0, Weight: 2}, api.Edge{ID: 6, U: 3, V: 2})
		for rest := k; rest > 0; rest /= many {
			b.do(choices[rest%many])
		}
		b.look()
		if t.Failed() {
			t.Fatalf("order %d", k)
		}
	}
}

func TestForestsKnowNothingOfOneAnother(t *testing.T) {
	next := numbers()
	one, other := newPair(t, 8), newPair(t, 8)
	for i := range 2000 {
		b := one
		if i%2 == 0 {
			b = other
		}
		b.do(someCall(next, 8, callInsert, callsInAll))
	}
	one.look()
	other.look()
}
