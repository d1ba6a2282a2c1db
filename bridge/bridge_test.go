package bridge_test

import (
	"math"
	"slices"
	"testing"

	"isthmus/api"
	"isthmus/bridge"
)

// noVertices are never vertices, of however many there are.
var noVertices = []int{-1, -2, api.MaxVertices, api.MaxVertices + 1, math.MinInt, math.MaxInt, 1 << 32, -1 << 32}

// noIDs may be no edge's.
var noIDs = []int{-1, 1<<40 + 1, math.MinInt, math.MaxInt, -1 << 40, 1 << 62}

// noWeights may be no edge's.
var noWeights = []int{1<<40 + 1, -1<<40 - 1, math.MinInt, math.MaxInt}

func of(t *testing.T, n int, l []api.Edge) *bridge.Oracle {
	t.Helper()
	o, e := bridge.Of(n, l)
	if o == nil || e != api.OK {
		t.Fatalf("Of(%d, %v): %v, %d", n, l, o, e)
	}
	return o
}

func wantRefused(t *testing.T, n int, l []api.Edge, want api.Errno) {
	t.Helper()
	if o, e := bridge.Of(n, l); o != nil || e != want {
		t.Errorf("Of(%d, %v): %v, %d; want nil, %d", n, l, o, e, want)
	}
}

func wantBridges(t *testing.T, o *bridge.Oracle, want ...int) {
	t.Helper()
	if ids := o.Bridges(); !slices.Equal(ids, want) {
		t.Errorf("Bridges: %v, want %v", ids, want)
	}
}

// wantBlocks holds what is told of all vertices' blocks against the least one of each.
func wantBlocks(t *testing.T, o *bridge.Oracle, want ...int) {
	t.Helper()
	if many := o.Blocks(); many != unlike(want) {
		t.Errorf("Blocks: %d, want %d", many, unlike(want))
	}
	for v := range want {
		if b, e := o.Block(v); b != want[v] || e != api.OK {
			t.Errorf("Block(%d): %d, %d; want %d", v, b, e, want[v])
		}
		for u := range want {
			if same, e := o.Same(u, v); same != (want[u] == want[v]) || e != api.OK {
				t.Errorf("Same(%d, %d): %t, %d", u, v, same, e)
			}
		}
	}
}

// join makes edges between pairs of vertices, with the IDs 1 and on.
func join(pairs ...[2]int) []api.Edge {
	var l []api.Edge
	for i, p := range pairs {
		l = append(l, api.Edge{ID: i + 1, U: p[0], V: p[1], Weight: i})
	}
	return l
}

// five are the chapter's edges.
func five() []api.Edge {
	return join([2]int{0, 1}, [2]int{1, 2}, [2]int{2, 0}, [2]int{2, 3}, [2]int{3, 4})
}

func TestExamples(t *testing.T) {
	o := of(t, 6, five())
	wantBridges(t, o, 4, 5)
	wantBlocks(t, o, 0, 0, 0, 3, 4, 5)
	six := append(five(), api.Edge{ID: 6, U: 4, V: 3})
	o = of(t, 6, six)
	wantBridges(t, o, 4)
	wantBlocks(t, o, 0, 0, 0, 3, 3, 5)
	wantRefused(t, 6, append(six, api.Edge{ID: 6, U: 4, V: 3}), api.ErrBridgeEdge)
	wantRefused(t, 6, append(six, api.Edge{ID: 7, U: 3, V: 3}), api.ErrBridgeEdge)
	wantRefused(t, 6, append(six, api.Edge{ID: 7, U: 0, V: 6}), api.ErrBridgeEdge)
	wantRefused(t, 0, nil, api.ErrArg)
	if same, e := o.Same(0, 6); same || e != api.ErrBridgeVertex {
		t.Errorf("Same(0, 6): %t, %d", same, e)
	}
}

func TestB1HowManyVertices(t *testing.T) {
	for _, n := range []int{0, -1, api.MaxVertices + 1, math.MinInt, math.MaxInt, 1 << 32, -1 << 32, 1<<32 + 1} {
		wantRefused(t, n, nil, api.ErrArg)
		wantRefused(t, n, five(), api.ErrArg)
		wantRefused(t, n, []api.Edge{{ID: -1, U: -1, V: -1}}, api.ErrArg)
	}
	for n := 1; n <= api.MaxVertices; n++ {
		for _, l := range [][]api.Edge{nil, {}} {
			o := of(t, n, l)
			wantBridges(t, o)
			var alone []int
			for v := range n {
				alone = append(alone, v)
			}
			wantBlocks(t, o, alone...)
		}
	}
}

func TestB1HowManyEdges(t *testing.T) {
	var l []api.Edge
	for i := range api.MaxEdges + 1 {
		l = append(l, api.Edge{ID: i, U: i % 2, V: 1 - i%2})
	}
	wantRefused(t, 3, l, api.ErrArg)
	wantBlocks(t, of(t, 3, l[:api.MaxEdges]), 0, 0, 2)
	wantRefused(t, 3, append(l, l...), api.ErrArg)
	// Too many, and wrong ones among them: what the promise names first is told.
	wantRefused(t, 3, make([]api.Edge, api.MaxEdges+1), api.ErrArg)
	wantRefused(t, 3, make([]api.Edge, api.MaxEdges), api.ErrBridgeEdge)
	l[api.MaxEdges].U = -1
	wantRefused(t, 3, l, api.ErrArg)
	wantRefused(t, 3, l[1:], api.ErrBridgeEdge)
	l[191].ID = 190
	wantRefused(t, 3, l[:api.MaxEdges], api.ErrBridgeEdge)
}

// wrongEdges may not be of six vertices beside the chapter's five edges.
func wrongEdges() []api.Edge {
	var l []api.Edge
	for _, v := range append(noVertices, 6) {
		l = append(l, api.Edge{ID: 9, U: v, V: 0}, api.Edge{ID: 9, U: 5, V: v}, api.Edge{ID: 9, U: v, V: v}, api.Edge{ID: 1, U: v, V: 0})
	}
	for v := range 6 {
		l = append(l, api.Edge{ID: 9, U: v, V: v}, api.Edge{ID: 1 + v%5, U: v, V: v})
	}
	for _, id := range noIDs {
		l = append(l, api.Edge{ID: id, U: 0, V: 1}, api.Edge{ID: id, U: 5, V: 4, Weight: 7})
	}
	for _, weight := range noWeights {
		l = append(l, api.Edge{ID: 9, U: 0, V: 1, Weight: weight}, api.Edge{ID: 9, U: 5, V: 4, Weight: weight})
	}
	for id := 1; id <= 5; id++ {
		l = append(l, api.Edge{ID: id, U: 4, V: 5}, api.Edge{ID: id, U: 0, V: 1, Weight: 3})
	}
	return l
}

// A wrong edge at each place of the list, and by itself, if it is wrong without the others too.
func TestB1WrongEdges(t *testing.T) {
	for _, x := range wrongEdges() {
		for i := range 6 {
			wantRefused(t, 6, slices.Insert(five(), i, x), api.ErrBridgeEdge)
		}
		_, want := plainOf(6, []api.Edge{x})
		if _, e := bridge.Of(6, []api.Edge{x}); e != want {
			t.Errorf("Of(6, %v): %d, want %d", x, e, want)
		}
	}
}

// The greatest and the least that may be.
func TestB1RightEdges(t *testing.T) {
	for _, x := range []api.Edge{
		{ID: 0, U: 0, V: 5, Weight: 1 << 40},
		{ID: 1 << 40, U: 5, V: 0, Weight: -1 << 40},
		{ID: 6, U: 5, V: 4},
		{ID: 1<<40 - 1, U: 3, V: 5, Weight: 1},
	} {
		wantBridges(t, of(t, 6, []api.Edge{x}), x.ID)
		for i := range 6 {
			o := of(t, 6, slices.Insert(five(), i, x))
			if same, e := o.Same(x.U, x.V); same || e != api.OK {
				t.Errorf("with %v: Same %t, %d", x, same, e)
			}
		}
	}
	long := join([2]int{0, 63}, [2]int{63, 1}, [2]int{1, 0}, [2]int{62, 63})
	o := of(t, 64, long)
	wantBridges(t, o, 4)
	if b, e := o.Block(63); b != 0 || e != api.OK {
		t.Errorf("Block(63): %d, %d", b, e)
	}
	for n := 1; n < 64; n++ {
		wantRefused(t, n, long, api.ErrBridgeEdge)
	}
}

// The list is its owner's: it is not written into, nor is what stands behind its length, and what is done to it later is not told.
func TestB1TheListIsNotKept(t *testing.T) {
	room := append(make([]api.Edge, 0, 20), five()...)
	room = append(room, api.Edge{ID: 7, U: 5, V: 4}, api.Edge{ID: 7, U: 5, V: 4})
	was := slices.Clone(room)
	one, other := of(t, 6, room[:5]), of(t, 6, room[:5])
	want := told(one, 6)
	wantRefused(t, 6, room[:7], api.ErrBridgeEdge)
	if !slices.Equal(room, was) || room[:20][19] != (api.Edge{}) {
		t.Errorf("the list was written into: %v", room[:20])
	}
	for i := range room {
		room[i] = api.Edge{ID: 100 + i, U: 0, V: 5}
	}
	for _, o := range []*bridge.Oracle{one, other} {
		if got := told(o, 6); got != want {
			t.Errorf("after the list was written into: %s, want %s", got, want)
		}
	}
}

func TestB2NoSuchVertex(t *testing.T) {
	o := of(t, 6, five())
	for _, v := range append(noVertices, 6) {
		if b, e := o.Block(v); b != 0 || e != api.ErrBridgeVertex {
			t.Errorf("Block(%d): %d, %d", v, b, e)
		}
		for _, p := range [][2]int{{v, v}, {v, 0}, {0, v}, {v, 5}, {5, v}} {
			if same, e := o.Same(p[0], p[1]); same || e != api.ErrBridgeVertex {
				t.Errorf("Same(%d, %d): %t, %d", p[0], p[1], same, e)
			}
		}
	}
	wantBlocks(t, o, 0, 0, 0, 3, 4, 5)
}

// IDs rise, whatever the order of the list and of the vertices is.
func TestB2BridgesRise(t *testing.T) {
	ids := []int{1 << 40, 3, 99, 0, 7, 1 << 32, 12}
	var l []api.Edge
	for i, id := range ids {
		l = append(l, api.Edge{ID: id, U: 7 - i, V: (7 - i) / 2})
	}
	slices.Sort(ids)
	wantBridges(t, of(t, 8, l), ids...)
	slices.Reverse(l)
	wantBridges(t, of(t, 8, l), ids...)
}

// What Bridges gave is its owner's: no other answer is changed by what is done to it.
func TestB2BridgesIsNewMemory(t *testing.T) {
	o := of(t, 6, five())
	want := told(o, 6)
	one, other := o.Bridges(), o.Bridges()
	one[0], one[1] = -1, -2
	_ = append(one[:1], -3, -4, -5)
	_ = append(one, -6)
	if !slices.Equal(other, []int{4, 5}) {
		t.Errorf("Bridges: %v", other)
	}
	if got := told(o, 6); got != want {
		t.Errorf("%s, want %s", got, want)
	}
}

// The least vertex of a block need be neither the first that is named nor the one from which it is come to.
func TestB2BlockIsTheLeast(t *testing.T) {
	o := of(t, 8, join([2]int{0, 7}, [2]int{7, 5}, [2]int{5, 3}, [2]int{3, 7}, [2]int{5, 6}, [2]int{6, 4}, [2]int{4, 2}, [2]int{2, 6}))
	wantBridges(t, o, 1, 5)
	wantBlocks(t, o, 0, 1, 2, 3, 2, 3, 2, 3)
}

// wantAsPlain holds an oracle against a plain one, and against what B3 says.
func wantAsPlain(t *testing.T, n int, l []api.Edge) {
	t.Helper()
	o := of(t, n, l)
	p, e := plainOf(n, l)
	if e != api.OK {
		t.Fatalf("%v is no list of edges", l)
	}
	ids := p.Bridges()
	if got := o.Bridges(); !slices.Equal(got, ids) {
		t.Fatalf("%d vertices, %v: Bridges %v, want %v", n, l, got, ids)
	}
	blocks := p.blocks()
	for v, want := range blocks {
		if got, e := o.Block(v); got != want || e != api.OK {
			t.Fatalf("%d vertices, %v: Block(%d) %d, %d; want %d", n, l, v, got, e, want)
		}
		for u := range n {
			if same, e := o.Same(u, v); same != (blocks[u] == want) || e != api.OK {
				t.Fatalf("%d vertices, %v: Same(%d, %d) %t, %d", n, l, u, v, same, e)
			}
		}
	}
	if got, want := o.Blocks(), unlike(p.components())+len(ids); got != want || got != unlike(blocks) {
		t.Fatalf("B3: %d vertices, %v: Blocks %d; components and bridges are %d", n, l, got, want)
	}
}

// wantTheorem asks for what B3 says of each edge, of what an oracle tells.
func wantTheorem(t *testing.T, n int, l []api.Edge) {
	t.Helper()
	o := of(t, n, l)
	p := &plain{n, l}
	parts, ids := unlike(p.components()), o.Bridges()
	for i, x := range l {
		is := slices.Contains(ids, x.ID)
		rest := p.without(i).components()
		if more := unlike(rest) - parts; is != (more == 1) {
			t.Fatalf("B3: %v: without %v there are %d components more", l, x, more)
		}
		for k := range n * n {
			if same, _ := o.Same(k/n, k%n); same && rest[k/n] != rest[k%n] {
				t.Fatalf("B3: %v: %v parts %d and %d, which are of one block", l, x, k/n, k%n)
			}
		}
		beside := func(y api.Edge) bool {
			return y.ID != x.ID && (y.U == x.U && y.V == x.V || y.U == x.V && y.V == x.U)
		}
		if is && slices.ContainsFunc(l, beside) {
			t.Fatalf("B3: %v: %v is a bridge, and another edge is beside it", l, x)
		}
	}
}

// All graphs of a few vertices, with no edge, one or two between each two; of the two the ends are named in both orders.
func TestAllSmallGraphs(t *testing.T) {
	for n := 1; n <= 5; n++ {
		var pairs [][2]int
		for v := range n {
			for u := range v {
				pairs = append(pairs, [2]int{u, v})
			}
		}
		choices := 1
		for range pairs {
			choices *= 3
		}
		for k := range choices {
			var some [][2]int
			for rest, i := k, 0; rest > 0; rest, i = rest/3, i+1 {
				u, v := pairs[i][0], pairs[i][1]
				some = append(some, [][2]int{{u, v}, {v, u}}[:rest%3]...)
			}
			wantAsPlain(t, n, join(some...))
			if k%7 == 0 {
				wantTheorem(t, n, join(some...))
			}
		}
	}
}

// longGraphs are such that ways are as long as they can be, or edges as many.
func longGraphs() [][]api.Edge {
	var way, ring, zigzag, twice, star, wheel, chain [][2]int
	for v := range 63 {
		way = append(way, [2]int{v, v + 1})
		zigzag = append(zigzag, [2]int{(v * 37) % 64, ((v + 1) * 37) % 64})
		twice = append(twice, [2]int{v, v + 1}, [2]int{v + 1, v})
		star = append(star, [2]int{63, v})
		wheel = append(wheel, [2]int{0, v + 1}, [2]int{v + 1, (v+1)%63 + 1})
		if v%4 == 3 {
			chain = append(chain, [2]int{v, v + 1})
		} else {
			chain = append(chain, [2]int{v, v + 1}, [2]int{v/4*4 + 3, v})
		}
	}
	ring = append(slices.Clone(way), [2]int{63, 0})
	back := append(slices.Clone(zigzag), [2]int{37, 63 * 37 % 64})
	three := append(slices.Clone(way), append(slices.Clone(way), way...)...)
	var all [][]api.Edge
	for _, pairs := range [][][2]int{way, ring, zigzag, back, twice, star, wheel, chain, three} {
		all = append(all, join(pairs...))
	}
	return all
}

func TestLongWays(t *testing.T) {
	for _, l := range longGraphs() {
		wantAsPlain(t, 64, l)
		wantTheorem(t, 64, l)
		slices.Reverse(l)
		wantAsPlain(t, 64, l)
		for _, i := range []int{0, len(l) / 2, len(l) - 1} {
			wantAsPlain(t, 64, slices.Delete(slices.Clone(l), i, i+1))
		}
	}
}

// numbers are drawn one behind the other, always the same ones.
func numbers() func(below int) int {
	x := uint64(88172645463325252)
	return func(below int) int {
		x ^= x << 13
		x ^= x >> 7
		x ^= x << 17
		return int(x % uint64(below))
	}
}

// someEdges are so many edges of at least two vertices, with IDs in no order; most are between neighbours.
func someEdges(next func(int) int, n, many int) []api.Edge {
	var l []api.Edge
	for i := range many {
		u := next(n)
		v := (u + 1 + next(n-1)) % n
		if next(4) > 0 {
			v = (u + 1) % n
		}
		l = append(l, api.Edge{ID: (i*89 + 5) % 193, U: u, V: v, Weight: next(9) - 4})
	}
	return l
}

func TestManyGraphsBesidePlainOnes(t *testing.T) {
	next := numbers()
	for _, n := range []int{2, 3, 5, 8, 20, 40, api.MaxVertices} {
		for i := range 120 {
			l := someEdges(next, n, min(next(2*n+2), api.MaxEdges))
			if i%40 == 0 {
				l = someEdges(next, n, api.MaxEdges)
			}
			wantAsPlain(t, n, l)
			if i%10 == 0 {
				wantTheorem(t, n, l)
			}
		}
	}
}

// Neither the list's order nor which end is named first is told, nor a weight.
func TestNoOrderIsTold(t *testing.T) {
	next := numbers()
	for i := range 60 {
		n := 2 + next(9)
		l := someEdges(next, n, next(2*n))
		want := told(of(t, n, l), n)
		for range 20 {
			for k := range l {
				j := next(len(l))
				l[k], l[j] = l[j], l[k]
				if next(2) == 0 {
					l[k].U, l[k].V = l[k].V, l[k].U
				}
				l[k].Weight = next(1<<41+1) - 1<<40
			}
			if got := told(of(t, n, l), n); got != want {
				t.Fatalf("graph %d: %v: %s, want %s", i, l, got, want)
			}
		}
	}
}

// What an oracle tells stays, whatever is asked in between, of it and of others.
func TestOraclesKnowNothingOfOneAnother(t *testing.T) {
	next := numbers()
	var all []*bridge.Oracle
	var want []string
	for i := range 30 {
		l := someEdges(next, 2+i, 2*i)
		all = append(all, of(t, 2+i, l))
		p, _ := plainOf(2+i, l)
		want = append(want, told(p, 2+i))
		wantRefused(t, 2+i, append(l, api.Edge{ID: 500, U: 1, V: 1}), api.ErrBridgeEdge)
	}
	for range 3 {
		for i, o := range all {
			if got := told(o, 2+i); got != want[i] {
				t.Errorf("oracle %d: %s, want %s", i, got, want[i])
			}
		}
	}
}
