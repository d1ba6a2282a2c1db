package store_test

import (
	"fmt"
	"slices"
	"testing"

	"isthmus/api"
	"isthmus/store"
)

// numbers are drawn one behind the other, always the same ones.
func numbers() func(below int) int {
	x := uint64(88172645463325252)
	return func(below int) int {
		x ^= x << 13
		x ^= x >> 7
		x ^= x << 17
		return int(x % uint64(below))
	}
}

// someNames are asked for in long runs; some are no names.
func someNames() []string {
	names := []string{"rep", "", "Q"}
	for i := range 19 {
		names = append(names, "n"+fmt.Sprint(i))
	}
	return names
}

// someCall is one of the calls from one on and below another, with IDs a little beyond those that there are, and few values.
func someCall(next func(int) int, n, from, below int) call {
	names := someNames()
	return call{from + next(below-from), next(2*n+4) - 1, next(n+2) - 1, next(n+2) - 1, next(9) - 4, names[next(len(names))]}
}

// aim lets a call mean something that is there, or has room, most of the time.
func aim(next func(int) int, p *plain, c call) call {
	if next(5) == 0 {
		return c
	}
	switch c.which {
	case callDropEdge, callSetWeight:
		if len(p.edges) > 0 {
			c.id = p.edges[next(len(p.edges))].ID
		}
	case callAddVertex:
		c.id = next(p.vertexRoom + 2)
	case callAddEdge:
		c.id, c.u, c.v = next(p.edgeRoom+2), someVertex(next, p), someVertex(next, p)
	default:
		c.id, c.u, c.v = someVertex(next, p), someVertex(next, p), someVertex(next, p)
	}
	return c
}

// someVertex is one that is there, if there is one.
func someVertex(next func(int) int, p *plain) int {
	if len(p.vertices) == 0 {
		return -1
	}
	return p.vertices[next(len(p.vertices))].ID
}

func TestP1LongRunsBesideAPlainStore(t *testing.T) {
	next := numbers()
	for _, room := range [][2]int{{1, 0}, {1, 3}, {2, 1}, {2, 9}, {3, 4}, {5, 8}, {8, 12}, {12, 40}, {30, 60}, {64, 192}} {
		b := newPair(t, room[0], room[1])
		turn := 100 + 8*room[0]
		for i := range 8 * turn {
			c := someCall(next, room[0], 0, callsInAll)
			// It grows and falls by turns.
			switch some, grow := next(3) > 0, i/turn%2 == 0; {
			case some && grow:
				c.which = []int{callAddVertex, callAddEdge, callAddEdge, callPut}[next(4)]
			case some:
				c.which = []int{callDropVertex, callDropEdge, callDropEdge, callSetWeight}[next(4)]
			}
			b.do(aim(next, b.p, c))
			if (room[0] < 6 && i%7 == 0) || i%(turn/4) == 0 {
				b.look()
			}
			if t.Failed() {
				t.Fatalf("rooms %v, call %d", room, i)
			}
		}
	}
}

// fewChanges are on the vertices 0 to 3, the edges 0 to 3 and two sets.
func fewChanges() []call {
	var all []call
	for id := range 4 {
		all = append(all, call{which: callDropVertex, id: id}, vertexOf(id, 3-id),
			call{which: callDropEdge, id: id}, edgeOf(id, id, (id+1)%4, 2), edgeOf(id, (id+2)%4, (id+1)%3, 1))
	}
	return append(all, call{which: callSetValue, id: 1, n: -7}, call{which: callSetWeight, id: 2, n: 0}, call{which: callSetWeight, id: 0, n: 5},
		call{which: callPut, name: "a", id: 3}, call{which: callPut, name: "b", id: 0}, call{which: callTake, name: "a", id: 1},
		call{which: callAddSet, name: "b"}, call{which: callDropSet, name: "a"})
}

// All orders of three changes, and all that can be asked behind each.
func TestP1AllOrdersOfFewChanges(t *testing.T) {
	choices := fewChanges()
	many := len(choices)
	for k := range many * many * many {
		b := newPair(t, 4, 4)
		for id := range 4 {
			b.taken(vertexOf(id, 3-id))
		}
		for _, c := range []call{edgeOf(0, 0, 1, 3), edgeOf(1, 2, 1, 3), edgeOf(2, 0, 2, 3), {which: callAddSet, name: "a"}, {which: callPut, name: "a", id: 1}, {which: callPut, name: "a", id: 3}} {
			b.taken(c)
		}
		for rest := k; rest > 0; rest /= many {
			b.do(choices[rest%many])
		}
		b.look()
		if t.Failed() {
			t.Fatalf("order %d", k)
		}
	}
}

// listed is a plain store of what a store's own lists tell.
func listed(t *testing.T, x *store.Store) *plain {
	t.Helper()
	p := &plain{vertexRoom: 64, edgeRoom: 192, vertices: x.Vertices(), edges: x.Edges()}
	for _, name := range x.Sets() {
		ids, e := x.Members(name)
		if e != api.OK {
			t.Errorf("Members(%q): %d", name, e)
		}
		p.sets = append(p.sets, set{name, ids})
	}
	return p
}

func TestP2WhatIsKnownIsOfTheListedGraph(t *testing.T) {
	next := numbers()
	for _, n := range []int{2, 4, 7, 16} {
		x := fresh(t, n, 3*n)
		for i := range 1200 {
			p := listed(t, x)
			p.vertexRoom, p.edgeRoom = n, 3*n
			c := someCall(next, n, 0, callHas)
			if i%4 > 0 {
				c.which = []int{callAddVertex, callAddEdge, callAddEdge, callDropEdge}[next(4)]
			}
			change(x, aim(next, p, c))
			if i%20 != 0 {
				continue
			}
			if got, want := told(x, nil), told(listed(t, x), nil); got != want {
				t.Fatalf("P2: of %v, %v: %s, want %s", x.Vertices(), x.Edges(), got, want)
			}
		}
	}
}

// shuffled is the parts of a list in whatever order.
func shuffled[T any](next func(int) int, list []T) []T {
	list = slices.Clone(list)
	for i := range list {
		k := i + next(len(list)-i)
		list[i], list[k] = list[k], list[i]
	}
	return list
}

// build makes a store of a plain one's things, in whatever order and with detours.
func build(t *testing.T, next func(int) int, p *plain, vertices, edges int) *store.Store {
	t.Helper()
	x := fresh(t, vertices, edges)
	must := func(c call) {
		t.Helper()
		if e := change(x, c); e != api.OK {
			t.Errorf("%+v: %d", c, e)
		}
	}
	detour := func() {
		must(vertexOf(900, 5))
		for _, y := range x.Edges() {
			if next(2) == 0 {
				must(edgeOf(901, 900, y.U, next(5)))
				must(edgeOf(902, y.V, 900, next(5)))
				must(call{which: callDropEdge, id: y.ID})
				must(edgeOf(y.ID, y.U, y.V, next(5)))
				must(call{which: callSetWeight, id: y.ID, n: y.Weight})
				must(call{which: callDropEdge, id: 902})
				must(call{which: callDropEdge, id: 901})
			}
		}
		must(call{which: callDropVertex, id: 900})
	}
	for _, v := range shuffled(next, p.vertices) {
		must(vertexOf(v.ID, next(9)))
		must(call{which: callSetValue, id: v.ID, n: v.Value})
	}
	for _, y := range shuffled(next, p.edges) {
		must(edgeOf(y.ID, y.U, y.V, y.Weight))
		detour()
	}
	for _, s := range shuffled(next, p.sets) {
		must(call{which: callAddSet, name: s.name})
		for _, id := range shuffled(next, s.ids) {
			must(call{which: callPut, name: s.name, id: id})
		}
		detour()
	}
	return x
}

// Stores that have the same answer the same, however they came to it, and whatever their room.
func TestG10NoOrderIsTold(t *testing.T) {
	next := numbers()
	for range 12 {
		b := newPair(t, 9, 16)
		for range 400 {
			c := someCall(next, 9, 0, callHas)
			if next(3) > 0 {
				c.which = []int{callAddVertex, callAddEdge, callAddEdge, callPut}[next(4)]
			}
			b.do(aim(next, b.p, c))
		}
		want := told(b.x, []int{-1, 900}, "nobody")
		for k := range 12 {
			x := build(t, next, b.p, 10+k*4, 18+10*k)
			if got := told(x, []int{-1, 900}, "nobody"); got != want {
				t.Fatalf("G10: of %+v: %s, want %s", *b.p, got, want)
			}
		}
	}
}

// A change that is taken back leaves all answers as they were.
func TestG10TakenBack(t *testing.T) {
	b := newPair(t, 7, 8)
	b.fill()
	b.taken(edgeOf(15, 5, 2, 4))
	want := told(b.x, []int{6, 99}, "none", "more")
	for _, both := range [][]call{
		{vertexOf(6, 60), {which: callDropVertex, id: 6}},
		{vertexOf(0, 60), {which: callDropVertex, id: 0}},
		{{which: callSetValue, id: 2, n: -9}, {which: callSetValue, id: 2, n: 20}},
		{edgeOf(16, 1, 5, 1), {which: callDropEdge, id: 16}},
		{edgeOf(1, 4, 5, -1), {which: callDropEdge, id: 1}},
		{{which: callDropEdge, id: 11}, edgeOf(11, 1, 2, 4)},
		{{which: callDropEdge, id: 12}, edgeOf(12, 2, 3, 7)},
		{{which: callDropEdge, id: 13}, edgeOf(13, 1, 3, 9)},
		{{which: callDropEdge, id: 14}, edgeOf(14, 3, 4, 2)},
		{{which: callDropEdge, id: 15}, {which: callDropVertex, id: 5}, vertexOf(5, 50), {which: callPut, name: "few", id: 5}, edgeOf(15, 5, 2, 4)},
		{{which: callSetWeight, id: 13, n: -5}, {which: callSetWeight, id: 13, n: 9}},
		{{which: callSetWeight, id: 14, n: 50}, {which: callSetWeight, id: 14, n: 2}},
		{{which: callAddSet, name: "more"}, {which: callDropSet, name: "more"}},
		{{which: callPut, name: "few", id: 2}, {which: callTake, name: "few", id: 2}},
		{{which: callTake, name: "few", id: 4}, {which: callPut, name: "few", id: 4}},
	} {
		for _, c := range both {
			b.taken(c)
			if slices.Equal(both[:1], []call{c}) && told(b.x, []int{6, 99}, "none", "more") == want {
				t.Errorf("G10: %+v changed nothing", c)
			}
			b.look()
		}
		if got := told(b.x, []int{6, 99}, "none", "more"); got != want {
			t.Errorf("G10: behind %+v: %s, want %s", both, got, want)
		}
	}
}

// Some are changed alike, but they are asked more or less in between, and more or less is refused.
func TestR1RefusedAndAskedLeaveNoTrace(t *testing.T) {
	const n = 8
	next := numbers()
	p := &plain{vertexRoom: n, edgeRoom: 2 * n}
	var all []*store.Store
	for range 4 {
		all = append(all, fresh(t, n, 2*n))
	}
	for i := range 1500 {
		c := aim(next, p, someCall(next, n, 0, callHas))
		want := do(p, c)
		for k, x := range all {
			for range k {
				do(x, someCall(next, n, callHas, callsInAll))
				x.AddVertex(next(n), maxValue+1)
				x.SetValue(next(n), -maxValue-1)
				x.AddEdge(next(n), next(n), next(n), maxValue+1)
				x.AddEdge(1000, 3, 3, 0)
				x.SetWeight(next(n), maxValue+1)
				x.AddSet("rep")
				x.Put("nobody", next(n))
				x.Take("n1", -1)
				x.DropEdge(1000)
			}
			if got := do(x, c); got != want {
				t.Fatalf("%+v: %s, want %s", c, got, want)
			}
		}
		if i%50 != 49 {
			continue
		}
		for _, x := range all {
			if got, want := told(x, nil), told(p, nil); got != want {
				t.Fatalf("call %d: %s, want %s", i, got, want)
			}
		}
	}
}

// spoil writes into a list, behind its length too.
func spoil[T any](list []T, with T) {
	list = list[:cap(list)]
	for i := range list {
		list[i] = with
	}
}

// What comes out is its owner's: no other answer is changed by what is done to it.
func TestR3ListsAreNewMemory(t *testing.T) {
	b := example(t)
	kept := []string{do(b.x, call{which: callVertices}), do(b.x, call{which: callEdges})}
	vertices, edges, sets, forest, bridges := b.x.Vertices(), b.x.Edges(), b.x.Sets(), b.x.Forest(), b.x.Bridges()
	around, _ := b.x.Around(1)
	members, _ := b.x.Members("few")
	for range 2 {
		spoil(b.x.Vertices(), api.Vertex{ID: -1})
		spoil(b.x.Edges(), api.Edge{ID: -1})
		spoil(b.x.Sets(), "spoilt")
		spoil(b.x.Forest(), -1)
		spoil(b.x.Bridges(), -1)
		l, _ := b.x.Around(1)
		spoil(l, -1)
		l, _ = b.x.Members("few")
		spoil(l, -1)
		b.look()
		b.taken(call{which: callDropEdge, id: 13})
		b.taken(edgeOf(13, 1, 3, 9))
	}
	// And a change writes into nothing that came out ahead of it.
	b.taken(call{which: callDropEdge, id: 11})
	b.taken(call{which: callSetWeight, id: 12, n: 1})
	b.taken(call{which: callSetValue, id: 1, n: 1})
	b.taken(call{which: callDropVertex, id: 5})
	b.taken(call{which: callDropSet, name: "few"})
	got := fmt.Sprint(vertices, edges, sets, forest, bridges, around, members)
	wantText(t, "what came out", got, kept[0]+" "+kept[1]+" [few] [11 12 14] [14] [1 2 3 4] [1 4 5]")
}

func TestR4StoresKnowNothingOfOneAnother(t *testing.T) {
	next := numbers()
	one, other := newPair(t, 8, 14), newPair(t, 8, 14)
	for i := range 3000 {
		b := one
		if i%2 == 0 {
			b = other
		}
		b.do(aim(next, b.p, someCall(next, 8, 0, callsInAll)))
	}
	one.look()
	other.look()
}
