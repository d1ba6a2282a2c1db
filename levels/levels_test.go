package levels_test

import (
	"fmt"
	"maps"
	"math"
	"math/bits"
	"slices"
	"testing"

	"isthmus/api"
	"isthmus/levels"
)

// noVertices are never vertices, of however many there are.
var noVertices = []int{-1, -2, api.MaxVertices, api.MaxVertices + 1, math.MinInt, math.MaxInt, 1 << 32, -1 << 32}

// noIDs may be no edge's.
var noIDs = []int{-1, 1<<40 + 1, math.MinInt, math.MaxInt, -1 << 40, 1 << 62}

// standing is what Level tells of an edge.
type standing struct {
	level  int
	forest bool
}

// pair is Levels beside a plain graph, to which the same is done.
type pair struct {
	t    *testing.T
	n    int
	x    *levels.Levels
	p    *plain
	last map[int]standing // of all edges, as they were told last
}

func newPair(t *testing.T, n int) pair {
	t.Helper()
	return pair{t, n, fresh(t, n), newPlain(n), map[int]standing{}}
}

func fresh(t *testing.T, n int) *levels.Levels {
	t.Helper()
	x, e := levels.New(n)
	if x == nil || e != api.OK {
		t.Fatalf("New(%d): %v, %d", n, x, e)
	}
	return x
}

// do makes calls to both, which must answer the same, and holds the theorem against each change.
func (b pair) do(calls ...call) {
	b.t.Helper()
	for _, c := range calls {
		many := len(b.p.edges)
		got, want := do(b.x, c), do(b.p, c)
		if got != want {
			b.t.Errorf("call %+v: %s, want %s; the edges: %v", c, got, want, b.p.edges)
		}
		if c.which < callConnected {
			b.step(c, len(b.p.edges) < many)
		}
	}
}

// put makes edges, which must be taken.
func (b pair) put(edges ...api.Edge) {
	b.t.Helper()
	for _, x := range edges {
		wantErr(b.t, fmt.Sprintf("Insert of %v", x), b.x.Insert(x.ID, x.U, x.V), api.OK)
		wantErr(b.t, fmt.Sprintf("plain Insert of %v", x), b.p.Insert(x.ID, x.U, x.V), api.OK)
		b.step(call{callInsert, x.ID, x.U, x.V}, false)
	}
}

// look asks for all that can be known, of the vertices and of those a little beyond them; nothing changes by that.
func (b pair) look() {
	b.t.Helper()
	b.do(call{which: callParts})
	for v := -1; v <= b.n; v++ {
		b.do(call{which: callSize, v: v}, call{which: callLeast, v: v})
		for u := -1; u <= b.n; u++ {
			b.do(call{which: callConnected, u: u, v: v})
		}
	}
	if now := b.standings(); !maps.Equal(now, b.last) {
		b.t.Errorf("C4: %v, and %v after questions", b.last, now)
	}
}

// standings is what Level tells of all edges.
func (b pair) standings() map[int]standing {
	b.t.Helper()
	all := map[int]standing{}
	for _, x := range b.p.edges {
		level, forest, e := b.x.Level(x.ID)
		wantErr(b.t, fmt.Sprintf("Level(%d)", x.ID), e, api.OK)
		all[x.ID] = standing{level, forest}
	}
	return all
}

// step holds C5 against what there is behind a call, and against what there was ahead of it.
func (b pair) step(c call, deleted bool) {
	b.t.Helper()
	now := b.standings()
	for id, s := range now {
		was, there := b.last[id]
		switch {
		case !there && s.level != 0:
			b.t.Errorf("C5: %+v: the new edge %d has the level %d", c, id, s.level)
		case there && s != was && !deleted:
			b.t.Errorf("C5: %+v: the edge %d was %v, is %v", c, id, was, s)
		case there && (s.level < was.level || was.forest && !s.forest):
			b.t.Errorf("C5: %+v: the edge %d was %v, fell to %v", c, id, was, s)
		}
	}
	clear(b.last)
	maps.Copy(b.last, now)
	b.theorem()
}

// theorem is what C5 says of any time.
func (b pair) theorem() {
	b.t.Helper()
	top := bits.Len(uint(b.n)) - 1
	all := newGroups(b.n)
	for _, x := range b.p.edges {
		all.join(x.U, x.V)
		if s := b.last[x.ID]; s.level < 0 || s.level > top {
			b.t.Errorf("C5: the edge %d of %d vertices has the level %d", x.ID, b.n, s.level)
		}
	}
	for i := 0; i <= top; i++ {
		over := newGroups(b.n)
		for _, x := range b.p.edges {
			if s := b.last[x.ID]; s.forest && s.level >= i && !over.join(x.U, x.V) {
				b.t.Errorf("C5: the forest has a ring over %d", x.ID)
			}
		}
		for v := range b.n {
			if many := over.size(v); many<<i > b.n {
				b.t.Errorf("C5: of %d vertices %d are together at the level %d", b.n, many, i)
			}
			if i == 0 && over.size(v) != all.size(v) {
				b.t.Errorf("C5: from %d the forest leads to %d, of %d", v, over.size(v), all.size(v))
			}
		}
		for _, x := range b.p.edges {
			if s := b.last[x.ID]; !s.forest && s.level == i && over.of(x.U) != over.of(x.V) {
				b.t.Errorf("C5: no way over the forest of the level %d beside the edge %d", i, x.ID)
			}
		}
	}
}

// groups of vertices: the first one of each, and how many there are.
type groups struct {
	over, many []int
}

func newGroups(n int) groups {
	g := groups{make([]int, n), make([]int, n)}
	for v := range n {
		g.over[v], g.many[v] = v, 1
	}
	return g
}

func (g groups) of(v int) int {
	for g.over[v] != v {
		v = g.over[v]
	}
	return v
}

func (g groups) size(v int) int {
	return g.many[g.of(v)]
}

// join makes one of two groups; false, if they were one.
func (g groups) join(u, v int) bool {
	u, v = g.of(u), g.of(v)
	if u == v {
		return false
	}
	g.over[v] = u
	g.many[u] += g.many[v]
	return true
}

func wantErr(t *testing.T, what string, e, want api.Errno) {
	t.Helper()
	if e != want {
		t.Errorf("%s: %d, want %d", what, e, want)
	}
}

func wantConnected(t *testing.T, x *levels.Levels, u, v int, want bool) {
	t.Helper()
	if is, e := x.Connected(u, v); is != want || e != api.OK {
		t.Errorf("Connected(%d, %d): %t, %d; want %t", u, v, is, e, want)
	}
}

func wantSize(t *testing.T, x *levels.Levels, v, want int) {
	t.Helper()
	if n, e := x.Size(v); n != want || e != api.OK {
		t.Errorf("Size(%d): %d, %d; want %d", v, n, e, want)
	}
}

func wantLeast(t *testing.T, x *levels.Levels, v, want int) {
	t.Helper()
	if n, e := x.Least(v); n != want || e != api.OK {
		t.Errorf("Least(%d): %d, %d; want %d", v, n, e, want)
	}
}

func wantParts(t *testing.T, x *levels.Levels, want int) {
	t.Helper()
	if n := x.Parts(); n != want {
		t.Errorf("Parts: %d, want %d", n, want)
	}
}

// wantForest holds against it how many of the edges are of the forest, all of the level 0.
func wantForest(t *testing.T, x *levels.Levels, want int, ids ...int) {
	t.Helper()
	many := 0
	for _, id := range ids {
		level, forest, e := x.Level(id)
		if level != 0 || e != api.OK {
			t.Errorf("Level(%d): %d, %t, %d", id, level, forest, e)
		}
		if forest {
			many++
		}
	}
	if many != want {
		t.Errorf("%d of the edges %v are of the forest, want %d", many, ids, want)
	}
}

func wantNoLevel(t *testing.T, x *levels.Levels, id int) {
	t.Helper()
	if level, forest, e := x.Level(id); level != 0 || forest || e != api.ErrLevelEdge {
		t.Errorf("Level(%d): %d, %t, %d", id, level, forest, e)
	}
}

// chapterRing is the first example's graph.
func chapterRing(t *testing.T) *levels.Levels {
	t.Helper()
	x := fresh(t, 4)
	wantErr(t, "Insert(1, 0, 1)", x.Insert(1, 0, 1), api.OK)
	wantErr(t, "Insert(2, 1, 2)", x.Insert(2, 1, 2), api.OK)
	wantErr(t, "Insert(3, 2, 0)", x.Insert(3, 2, 0), api.OK)
	return x
}

func TestExampleRing(t *testing.T) {
	x := chapterRing(t)
	wantConnected(t, x, 0, 2, true)
	wantSize(t, x, 1, 3)
	wantLeast(t, x, 2, 0)
	wantParts(t, x, 2)
	wantForest(t, x, 2, 1, 2, 3)

	wantErr(t, "Delete(1)", x.Delete(1), api.OK)
	wantConnected(t, x, 0, 1, true)
	for _, id := range []int{2, 3} {
		if _, forest, e := x.Level(id); !forest || e != api.OK {
			t.Errorf("Level(%d): %t, %d", id, forest, e)
		}
	}
	wantErr(t, "Delete(2)", x.Delete(2), api.OK)
	wantConnected(t, x, 0, 1, false)
	wantParts(t, x, 3)
	wantLeast(t, x, 2, 0)
}

func TestExampleErrors(t *testing.T) {
	x := chapterRing(t)
	wantErr(t, "Insert(4, 3, 3)", x.Insert(4, 3, 3), api.ErrLevelLoop)
	wantErr(t, "Insert(3, 3, 3)", x.Insert(3, 3, 3), api.ErrLevelTwice)
	wantErr(t, "Insert(-1, 3, 3)", x.Insert(-1, 3, 3), api.ErrArg)
	wantErr(t, "Insert(4, 0, 4)", x.Insert(4, 0, 4), api.ErrLevelVertex)
	wantErr(t, "Delete(9)", x.Delete(9), api.ErrLevelEdge)
	wantNoLevel(t, x, 9)
}

func TestC1New(t *testing.T) {
	for _, n := range []int{0, -1, api.MaxVertices + 1, math.MinInt, math.MaxInt, 1 << 32, -1 << 32, 1<<32 + 1} {
		if x, e := levels.New(n); x != nil || e != api.ErrArg {
			t.Errorf("New(%d): %v, %d; want nil, %d", n, x, e, api.ErrArg)
		}
	}
	for n := 1; n <= api.MaxVertices; n++ {
		x := fresh(t, n)
		wantParts(t, x, n)
		for v := range n {
			wantSize(t, x, v, 1)
			wantLeast(t, x, v, v)
			for u := range n {
				wantConnected(t, x, u, v, u == v)
			}
		}
		_, e := x.Size(n)
		wantErr(t, "Size beyond the vertices", e, api.ErrLevelVertex)
		wantErr(t, "Delete", x.Delete(0), api.ErrLevelEdge)
		wantNoLevel(t, x, 0)
	}
}

func TestC2Refused(t *testing.T) {
	b := newPair(t, 5)
	b.put(api.Edge{ID: 0, U: 0, V: 1}, api.Edge{ID: 7, U: 2, V: 1}, api.Edge{ID: 1 << 40, U: 3, V: 4}, api.Edge{ID: 8, U: 2, V: 0})
	refused(b)
	b.look()
	wantErr(t, "Insert(9, 4, 4)", b.x.Insert(9, 4, 4), api.ErrLevelLoop)
	b.do(call{callInsert, 9, 4, 3})
	b.look()
}

// refused asks for what may not be, of five vertices and the edges 0, 7, 8 and the greatest, but not 9.
func refused(b pair) {
	b.t.Helper()
	ends := [][2]int{{0, 0}, {4, 4}, {0, 1}, {1, 0}, {0, 3}, {4, 2}}
	for _, p := range ends {
		for _, id := range []int{0, 7, 8, 1 << 40} {
			wantErr(b.t, fmt.Sprintf("Insert of %d, %v", id, p), b.x.Insert(id, p[0], p[1]), api.ErrLevelTwice)
		}
		for _, id := range noIDs {
			wantErr(b.t, fmt.Sprintf("Insert of %d, %v", id, p), b.x.Insert(id, p[0], p[1]), api.ErrArg)
		}
	}
	for v := range 5 {
		wantErr(b.t, fmt.Sprintf("Insert(9, %d, %d)", v, v), b.x.Insert(9, v, v), api.ErrLevelLoop)
	}
	for _, v := range append(noVertices, 5) {
		for _, p := range [][2]int{{v, v}, {v, 0}, {0, v}, {v, 4}, {4, v}} {
			for _, id := range append(noIDs, 7, 9) {
				wantErr(b.t, fmt.Sprintf("Insert of %d, %v", id, p), b.x.Insert(id, p[0], p[1]), api.ErrLevelVertex)
			}
		}
	}
	for _, id := range append(noIDs, 1, 9, 1<<40-1, 7+1<<32) {
		wantErr(b.t, fmt.Sprintf("Delete(%d)", id), b.x.Delete(id), api.ErrLevelEdge)
		wantNoLevel(b.t, b.x, id)
	}
}

func TestC2Full(t *testing.T) {
	b := newPair(t, 5)
	b.put(api.Edge{ID: 0, U: 0, V: 1}, api.Edge{ID: 7, U: 2, V: 1}, api.Edge{ID: 1 << 40, U: 3, V: 4}, api.Edge{ID: 8, U: 2, V: 0})
	for i := range api.MaxEdges - 4 {
		b.put(api.Edge{ID: 100 + i, U: i % 3, V: (i + 1) % 3})
	}
	wantErr(t, "Insert(9, 0, 4)", b.x.Insert(9, 0, 4), api.ErrLevelFull)
	wantErr(t, "Insert(9, 0, 1)", b.x.Insert(9, 0, 1), api.ErrLevelFull)
	refused(b)
	wantNoLevel(t, b.x, 9)
	b.look()
	b.do(call{which: callDelete, id: 150}, call{callInsert, 9, 0, 4}, call{callInsert, 150, 0, 4})
	b.look()
	for _, x := range slices.Clone(b.p.edges) {
		b.do(call{which: callDelete, id: x.ID}, call{which: callParts})
	}
	wantParts(t, b.x, 5)
}

func TestC2SeveralBetweenTwo(t *testing.T) {
	for first := range 4 {
		b := newPair(t, 3)
		for id := range 4 {
			b.put(api.Edge{ID: id, U: id % 2, V: 1 - id%2})
		}
		wantForest(t, b.x, 1, 0, 1, 2, 3)
		for i := range 4 {
			b.do(call{which: callDelete, id: (first + i) % 4})
			wantConnected(t, b.x, 0, 1, i < 3)
			wantParts(t, b.x, []int{2, 2, 2, 3}[i])
		}
		b.look()
	}
}

func TestC2AnIDAgain(t *testing.T) {
	b := newPair(t, 4)
	b.put(api.Edge{ID: 5, U: 0, V: 1}, api.Edge{ID: 6, U: 1, V: 2}, api.Edge{ID: 1 << 40, U: 2, V: 0})
	for _, id := range []int{5, 1 << 40, 6} {
		b.do(call{which: callDelete, id: id}, call{which: callDelete, id: id})
		wantNoLevel(t, b.x, id)
		b.put(api.Edge{ID: id, U: 3, V: id % 3})
		b.look()
	}
}

func TestC3NoSuchVertex(t *testing.T) {
	b := newPair(t, 3)
	b.put(api.Edge{ID: 1, U: 2, V: 1})
	for _, v := range append(noVertices, 3) {
		if n, e := b.x.Size(v); n != 0 || e != api.ErrLevelVertex {
			t.Errorf("Size(%d): %d, %d", v, n, e)
		}
		if n, e := b.x.Least(v); n != 0 || e != api.ErrLevelVertex {
			t.Errorf("Least(%d): %d, %d", v, n, e)
		}
		for _, p := range [][2]int{{v, v}, {v, 0}, {0, v}, {v, 2}, {2, v}} {
			if is, e := b.x.Connected(p[0], p[1]); is || e != api.ErrLevelVertex {
				t.Errorf("Connected%v: %t, %d", p, is, e)
			}
		}
	}
	b.look()
}

// someGraphs are edges of unlike graphs over eight vertices.
func someGraphs() [][]api.Edge {
	lists := [][][2]int{
		{{0, 1}, {1, 2}, {2, 3}, {3, 4}, {4, 5}, {5, 6}, {6, 7}, {7, 0}},
		{{0, 1}, {1, 2}, {2, 0}, {5, 6}, {6, 7}, {7, 5}, {2, 5}, {3, 4}},
		{{0, 7}, {7, 0}, {0, 6}, {6, 7}, {6, 5}, {5, 3}, {3, 4}, {4, 5}, {3, 0}, {1, 2}},
		{{0, 1}, {0, 2}, {0, 3}, {0, 4}, {0, 5}, {0, 6}, {0, 7}, {1, 2}, {3, 4}, {5, 6}, {1, 7}},
	}
	var all [][]api.Edge
	for _, list := range lists {
		var edges []api.Edge
		for i, p := range list {
			edges = append(edges, api.Edge{ID: 3*i + 1, U: p[0], V: p[1]})
		}
		all = append(all, edges)
	}
	return all
}

// Each two edges are taken away, one behind the other, and then all others.
func TestC3AndC5WhicheverEdgesGo(t *testing.T) {
	for _, edges := range someGraphs() {
		for _, first := range edges {
			for _, second := range edges {
				b := newPair(t, 8)
				b.put(edges...)
				b.do(call{which: callDelete, id: first.ID}, call{which: callDelete, id: second.ID})
				b.look()
				for _, x := range edges {
					b.do(call{which: callDelete, id: x.ID}, call{which: callSize, v: x.U}, call{which: callLeast, v: x.V})
				}
				b.look()
			}
		}
	}
}

// Rings of all lengths, which are halved again and again: edges are looked at in vain, and lifted.
func TestC5LevelsRise(t *testing.T) {
	highest := 0
	for n := 1; n <= api.MaxVertices; n++ {
		b := newPair(t, n)
		for v := 1; v < n; v++ {
			b.put(api.Edge{ID: v, U: v - 1, V: v}, api.Edge{ID: n + v, U: v, V: v - 1})
		}
		for length := n; length > 1; length = (length + 1) / 2 {
			for v := length / 2; v < n; v += length {
				b.do(call{which: callDelete, id: v}, call{which: callDelete, id: n + v})
				for _, s := range b.last {
					highest = max(highest, s.level)
				}
			}
		}
		if n < 10 || n == api.MaxVertices {
			b.look()
		}
	}
	if highest < 2 {
		t.Errorf("no edge came higher than %d", highest)
	}
}

// Edges that came in all orders and had company for a while: what is told is the same.
func TestC6NoOrderIsTold(t *testing.T) {
	next := numbers()
	for _, edges := range someGraphs() {
		first := fresh(t, 8)
		for _, y := range edges {
			first.Insert(y.ID, y.U, y.V)
		}
		want := told(first, 8)
		for range 200 {
			x := fresh(t, 8)
			rest := slices.Clone(edges)
			for i := 0; len(rest) > 0; i++ {
				k := next(len(rest))
				wantErr(t, "Insert", x.Insert(rest[k].ID, rest[k].U, rest[k].V), api.OK)
				wantErr(t, "Insert", x.Insert(100+i, i%8, (i+1+next(7))%8), api.OK)
				rest = slices.Delete(rest, k, k+1)
			}
			for i := range edges {
				wantErr(t, "Delete", x.Delete(100+i), api.OK)
			}
			if got := told(x, 8); got != want {
				t.Fatalf("%v: %s, want %s", edges, got, want)
			}
		}
	}
}

// told is all that Connected, Size, Least and Parts answer, as a text.
func told(x graph, n int) string {
	all := []string{do(x, call{which: callParts})}
	for v := range n {
		all = append(all, do(x, call{which: callSize, v: v}), do(x, call{which: callLeast, v: v}))
		for u := range n {
			all = append(all, do(x, call{which: callConnected, u: u, v: v}))
		}
	}
	return fmt.Sprint(all)
}

// numbers are drawn one behind the other, always the same ones.
func numbers() func(below int) int {
	x := uint64(88172645463325252)
	return func(below int) int {
		x ^= x << 13
		x ^= x >> 7
		x ^= x << 17
		return int(x % uint64(below))
	}
}

// someCall is one of the calls from one on and below another, with vertices and IDs a little beyond those that there are.
func someCall(next func(int) int, n, from, below int) call {
	return call{which: from + next(below-from), id: next(3*n+5) - 1, u: next(n+2) - 1, v: next(n+2) - 1}
}

// Some are changed alike, but they are asked more or less in between, and more or less is refused: their levels and their forests are the same.
func TestC4AskingLeavesNoTrace(t *testing.T) {
	const n = 12
	next := numbers()
	var all []*levels.Levels
	for range 6 {
		all = append(all, fresh(t, n))
	}
	for range 2500 {
		c := someCall(next, n, callInsert, callConnected)
		want := do(all[0], c)
		for i, x := range all[1:] {
			if got := do(x, c); got != want {
				t.Fatalf("%+v: %s, and %s after questions", c, want, got)
			}
			for range i {
				do(x, someCall(next, n, callConnected, callsInAll))
				x.Level(next(50))
				x.Insert(next(50), -next(2), n)
				x.Delete(1000)
			}
		}
		for id := range 3*n + 4 {
			level, forest, e := all[0].Level(id)
			for _, x := range all[1:] {
				if other, tree, f := x.Level(id); other != level || tree != forest || f != e {
					t.Fatalf("Level(%d): %d, %t, %d, and %d, %t, %d after questions", id, level, forest, e, other, tree, f)
				}
			}
		}
	}
}

func TestManyCallsBesideAPlainGraph(t *testing.T) {
	next := numbers()
	for _, n := range []int{1, 2, 3, 4, 5, 8, 20, 33, api.MaxVertices} {
		b := newPair(t, n)
		for i := range 2500 {
			c := someCall(next, n, callInsert, callsInAll)
			// Edges come in one half of the time, and go in the other; most are between neighbours.
			switch grow, some := i/250%2 == 0, next(3) > 0; {
			case grow && some:
				c.which = callInsert
				if next(4) > 0 {
					c.v = c.u + 1 + next(2)
				}
			case !grow && some && len(b.p.edges) > 0:
				c.which, c.id = callDelete, b.p.edges[next(len(b.p.edges))].ID
			}
			b.do(c)
			if n < 5 || i%500 == 249 {
				b.look()
			}
			if t.Failed() {
				t.Fatalf("%d vertices, call %d", n, i)
			}
		}
	}
}

// All orders of a few changes on four vertices, and all that can be asked behind each.
func TestAllOrdersOfFewChanges(t *testing.T) {
	const n = 4
	var choices []call
	for id := range 5 {
		choices = append(choices, call{which: callDelete, id: id})
		for u := range n {
			choices = append(choices, call{callInsert, id, u, (u + 1 + id%2) % n})
		}
	}
	many := len(choices)
	for k := range many * many * many {
		b := newPair(t, n)
		b.put(api.Edge{ID: 4, U: 0, V: 1}, api.Edge{ID: 2, U: 1, V: 2}, api.Edge{ID: 0, U: 2, V: 0}, api.Edge{ID: 6, U: 3, V: 2})
		for rest := k; rest > 0; rest /= many {
			b.do(choices[rest%many])
		}
		b.look()
		if t.Failed() {
			t.Fatalf("order %d", k)
		}
	}
}

func TestLevelsKnowNothingOfOneAnother(t *testing.T) {
	next := numbers()
	one, other := newPair(t, 8), newPair(t, 8)
	for i := range 2000 {
		b := one
		if i%2 == 0 {
			b = other
		}
		b.do(someCall(next, 8, callInsert, callsInAll))
	}
	one.look()
	other.look()
}
