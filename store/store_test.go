package store_test

import (
	"fmt"
	"math"
	"slices"
	"strings"
	"testing"

	"isthmus/api"
	"isthmus/store"
)

const (
	maxID    = 1 << 40
	maxValue = 1 << 40
)

// noIDs may be nothing's.
var noIDs = []int{-1, maxID + 1, math.MinInt, math.MaxInt, -maxID, 1 << 62}

// noValues may be no value and no weight.
var noValues = []int{maxValue + 1, -maxValue - 1, math.MinInt, math.MaxInt}

// noNames are texts of all kinds that are no names.
var noNames = []string{"", "all", "vertices", "Few", "9a", "_a", "a-b", "a b", "thirteen_long", "a\x00", "ä", "few\n"}

// pair is a Store beside a plain one, to which the same is done.
type pair struct {
	t *testing.T
	x *store.Store
	p *plain
}

func newPair(t *testing.T, vertices, edges int) pair {
	t.Helper()
	return pair{t, fresh(t, vertices, edges), &plain{vertexRoom: vertices, edgeRoom: edges}}
}

func fresh(t *testing.T, vertices, edges int) *store.Store {
	t.Helper()
	x, e := store.New(vertices, edges)
	if x == nil || e != api.OK {
		t.Fatalf("New(%d, %d): %v, %d", vertices, edges, x, e)
	}
	return x
}

// do makes calls to both, which must answer the same.
func (b pair) do(calls ...call) {
	b.t.Helper()
	for _, c := range calls {
		if got, want := do(b.x, c), do(b.p, c); got != want {
			b.t.Errorf("call %+v: %s, want %s; %+v", c, got, want, *b.p)
		}
	}
}

// taken makes a call that both must take.
func (b pair) taken(c call) {
	b.t.Helper()
	b.want(api.OK, c)
}

// want makes a call to both that must answer one error, whatever the plain one says.
func (b pair) want(e api.Errno, c call) {
	b.t.Helper()
	if got, plain := change(b.x, c), change(b.p, c); got != e || plain != e {
		b.t.Errorf("call %+v: %d, the plain one %d; want %d", c, got, plain, e)
	}
}

// look asks for all that can be known, and for some that are not there.
func (b pair) look() {
	b.t.Helper()
	got, want := told(b.x, []int{-1, 77}, "nobody", ""), told(b.p, []int{-1, 77}, "nobody", "")
	if got == want {
		return
	}
	for i, line := range strings.Split(got, "\n") {
		if other := strings.Split(want, "\n"); i >= len(other) || line != other[i] {
			b.t.Fatalf("of %+v, question %d: %s; all of it: %s", *b.p, i, line, want)
		}
	}
}

func vertexOf(id, value int) call { return call{which: callAddVertex, id: id, n: value} }

func edgeOf(id, u, v, weight int) call {
	return call{which: callAddEdge, id: id, u: u, v: v, n: weight}
}

// fill lays the graph of the document's examples.
func (b pair) fill() {
	b.t.Helper()
	for id := 1; id <= 5; id++ {
		b.taken(vertexOf(id, 10*id))
	}
	for _, c := range []call{edgeOf(11, 1, 2, 4), edgeOf(12, 2, 3, 7), edgeOf(13, 1, 3, 9), edgeOf(14, 3, 4, 2)} {
		b.taken(c)
	}
	b.taken(call{which: callAddSet, name: "few"})
	for _, id := range []int{1, 4, 5} {
		b.taken(call{which: callPut, name: "few", id: id})
	}
}

func example(t *testing.T) pair {
	t.Helper()
	b := newPair(t, 6, 8)
	b.fill()
	return b
}

func wantText(t *testing.T, what string, got, want string) {
	t.Helper()
	if got != want {
		t.Errorf("%s: %s, want %s", what, got, want)
	}
}

func TestTheFirstExample(t *testing.T) {
	x := example(t).x
	for _, c := range []struct {
		what string
		call call
		want string
	}{
		{"Size(2)", call{which: callSize, id: 2}, "4 0"},
		{"Total(2)", call{which: callTotal, id: 2}, "100 0"},
		{"Least(5)", call{which: callLeast, id: 5}, "50 0"},
		{"Most(1)", call{which: callMost, id: 1}, "40 0"},
		{"Rep(4)", call{which: callRep, id: 4}, "1 0"},
		{"Degree(3)", call{which: callDegree, id: 3}, "3 0"},
		{"Around(4)", call{which: callAround, id: 4}, "[1 2 3 4] 0"},
		{"Members(few)", call{which: callMembers, name: "few"}, "[1 4 5] 0"},
		{"Bridges", call{which: callBridges}, "[14]"},
		{"Forest", call{which: callForest}, "[11 12 14]"},
		{"Block(1, 3)", call{which: callBlock, u: 1, v: 3}, "true 0"},
		{"Block(3, 4)", call{which: callBlock, u: 3, v: 4}, "false 0"},
		{"Bottleneck(1, 3)", call{which: callBottleneck, u: 1, v: 3}, "7 0"},
		{"Bottleneck(1, 1)", call{which: callBottleneck, u: 1, v: 1}, "0 105"},
		{"Bottleneck(1, 5)", call{which: callBottleneck, u: 1, v: 5}, "0 105"},
		{"Connected(1, 4)", call{which: callConnected, u: 1, v: 4}, "true 0"},
		{"Connected(1, 5)", call{which: callConnected, u: 1, v: 5}, "false 0"},
		{"Connected(1, 9)", call{which: callConnected, u: 1, v: 9}, "false 102"},
		{"Vertices", call{which: callVertices}, "[{1 10} {2 20} {3 30} {4 40} {5 50}]"},
		{"Edges", call{which: callEdges}, "[{11 1 2 4} {12 2 3 7} {13 1 3 9} {14 3 4 2}]"},
		{"Sets", call{which: callSets}, `["few"]`},
	} {
		wantText(t, c.what, do(x, c.call), c.want)
	}
}

func TestTheSecondExample(t *testing.T) {
	b := example(t)
	b.want(api.ErrStoreTwice, edgeOf(14, 1, 9, 0))
	b.want(api.ErrStoreNone, edgeOf(15, 1, 9, 0))
	b.want(api.ErrStoreNone, edgeOf(15, 9, 9, 0))
	b.want(api.ErrStoreLoop, edgeOf(15, 1, 1, 0))
	b.want(api.ErrArg, edgeOf(-1, 1, 1, 0))
	b.want(api.OK, call{which: callDropVertex, id: 5})
	wantText(t, "few", do(b.x, call{which: callMembers, name: "few"}), "[1 4] 0")
	b.want(api.ErrStoreBusy, call{which: callDropVertex, id: 4})
	b.look()
}

func TestTheThirdExample(t *testing.T) {
	b := example(t)
	b.want(api.OK, call{which: callSetWeight, id: 13, n: 5})
	wantText(t, "Forest", fmt.Sprint(b.x.Forest()), "[11 13 14]")
	wantText(t, "Bottleneck(2, 3)", do(b.x, call{which: callBottleneck, u: 2, v: 3}), "5 0")
	b.look()
	b.want(api.OK, call{which: callDropEdge, id: 14})
	wantText(t, "Connected(3, 4)", do(b.x, call{which: callConnected, u: 3, v: 4}), "false 0")
	wantText(t, "Size(4)", do(b.x, call{which: callSize, id: 4}), "1 0")
	b.look()
}

func TestG1New(t *testing.T) {
	wrong := []int{-1, math.MinInt, math.MaxInt, 1 << 32, -1 << 32, 1<<32 + 1}
	for _, vertices := range append([]int{0, 65}, wrong...) {
		for _, edges := range []int{0, 1, 192, -1, 193} {
			if x, e := store.New(vertices, edges); x != nil || e != api.ErrArg {
				t.Errorf("New(%d, %d): %v, %d", vertices, edges, x, e)
			}
		}
	}
	for _, edges := range append([]int{193}, wrong...) {
		for _, vertices := range []int{1, 2, 64} {
			if x, e := store.New(vertices, edges); x != nil || e != api.ErrArg {
				t.Errorf("New(%d, %d): %v, %d", vertices, edges, x, e)
			}
		}
	}
	for vertices := 1; vertices <= 64; vertices++ {
		for _, edges := range []int{0, 1, 3 * vertices} {
			newPair(t, vertices, edges).look()
		}
	}
}

// There is room for so many vertices and edges, and for no more, however many came and went.
func TestG1Room(t *testing.T) {
	for _, room := range [][2]int{{1, 0}, {1, 192}, {2, 0}, {2, 1}, {2, 192}, {3, 2}, {7, 20}, {63, 191}, {64, 192}} {
		b := newPair(t, room[0], room[1])
		for id := range room[0] {
			b.taken(vertexOf(3*id, -id))
		}
		b.want(api.ErrStoreFull, vertexOf(1, 0))
		b.want(api.ErrStoreTwice, vertexOf(0, 0))
		if room[0] == 1 {
			b.want(api.ErrStoreLoop, edgeOf(1, 0, 0, 0))
			b.look()
			continue
		}
		for id := range room[1] {
			b.taken(edgeOf(5*id, 3*(id%room[0]), 3*((id+1)%room[0]), id%4))
		}
		b.want(api.ErrStoreFull, edgeOf(1, 0, 3, 0))
		b.want(api.ErrStoreFull, edgeOf(maxID, 3, 0, -1))
		b.want(api.ErrStoreLoop, edgeOf(1, 3, 3, 0))
		b.want(api.ErrStoreNone, edgeOf(1, 3, 4, 0))
		b.want(api.ErrArg, edgeOf(-1, 0, 3, 0))
		b.look()
		if room[1] > 0 {
			b.want(api.ErrStoreTwice, edgeOf(0, 0, 3, 0))
			b.taken(call{which: callDropEdge, id: 0})
			b.taken(edgeOf(1, 0, 3, 9))
			b.want(api.ErrStoreFull, edgeOf(0, 0, 3, 0))
			b.look()
		}
	}
}

func TestG2WrongNumbers(t *testing.T) {
	b := example(t)
	for _, id := range append(noIDs, 1, 6) {
		for _, value := range append(noValues, 7) {
			switch wrong := slices.Contains(noIDs, id) || slices.Contains(noValues, value); {
			case wrong:
				b.want(api.ErrArg, vertexOf(id, value))
			case id == 1:
				b.want(api.ErrStoreTwice, vertexOf(id, value))
			}
		}
	}
	for _, id := range append(noIDs, 0, 6, 9, 11, 1+1<<32) {
		b.want(api.ErrStoreNone, call{which: callDropVertex, id: id})
		for _, value := range append(noValues, 7) {
			b.want(api.ErrStoreNone, call{which: callSetValue, id: id, n: value})
		}
	}
	for _, value := range noValues {
		b.want(api.ErrArg, call{which: callSetValue, id: 3, n: value})
	}
	b.look()
	b.taken(vertexOf(6, 0))
	for _, value := range noValues {
		b.want(api.ErrArg, vertexOf(7, value))
		b.want(api.ErrArg, vertexOf(1, value))
	}
	for _, id := range noIDs {
		b.want(api.ErrArg, vertexOf(id, 0))
	}
	b.want(api.ErrStoreTwice, vertexOf(6, 0))
	b.want(api.ErrStoreFull, vertexOf(7, 0))
	b.look()
}

func TestG2TheGreatestNumbers(t *testing.T) {
	b := newPair(t, 64, 192)
	for _, c := range []call{vertexOf(0, -maxValue), vertexOf(maxID, maxValue), vertexOf(maxID-1, 0), vertexOf(1, maxValue-1)} {
		b.taken(c)
	}
	b.look()
	b.taken(call{which: callSetValue, id: 0, n: maxValue})
	b.taken(call{which: callSetValue, id: maxID, n: -maxValue})
	b.taken(edgeOf(maxID, maxID, 0, maxValue))
	b.taken(edgeOf(0, 0, maxID, -maxValue))
	b.look()
	for id := 2; id < 62; id++ {
		b.taken(vertexOf(id, maxValue))
		b.taken(edgeOf(id, id, 0, -maxValue))
	}
	b.want(api.ErrStoreFull, vertexOf(62, 0))
	b.do(call{which: callTotal, id: 3}, call{which: callLeast, id: 3}, call{which: callMost, id: 0}, call{which: callForest})
}

// Who goes is gone from all sets, and whoever comes, of the same ID or another, has nothing of him.
func TestG2WhoComesInAPlaceThatWasLeft(t *testing.T) {
	b := example(t)
	b.taken(call{which: callAddSet, name: "more"})
	b.taken(call{which: callPut, name: "more", id: 5})
	b.taken(call{which: callPut, name: "more", id: 2})
	for _, id := range []int{5, 0, 77, maxID} {
		b.taken(call{which: callDropVertex, id: 5})
		b.want(api.ErrStoreNone, call{which: callDropVertex, id: 5})
		b.want(api.ErrStoreNone, call{which: callTake, name: "few", id: 5})
		b.look()
		b.taken(vertexOf(id, -3))
		wantText(t, "few", do(b.x, call{which: callMembers, name: "few"}), "[1 4] 0")
		wantText(t, "more", do(b.x, call{which: callMembers, name: "more"}), "[2] 0")
		b.look()
		b.taken(edgeOf(20, id, 1, 3))
		b.want(api.ErrStoreBusy, call{which: callDropVertex, id: id})
		b.look()
		b.taken(call{which: callDropEdge, id: 20})
		b.taken(call{which: callDropVertex, id: id})
		b.taken(vertexOf(5, 50))
		b.taken(call{which: callPut, name: "few", id: 5})
		b.taken(call{which: callPut, name: "more", id: 5})
	}
	b.look()
}

func TestG2BusyTillTheLastEdgeGoes(t *testing.T) {
	b := example(t)
	for _, id := range []int{12, 13, 14} {
		b.want(api.ErrStoreBusy, call{which: callDropVertex, id: 3})
		b.taken(call{which: callDropEdge, id: id})
		b.look()
	}
	b.taken(call{which: callDropVertex, id: 3})
	b.taken(call{which: callDropVertex, id: 4})
	b.want(api.ErrStoreBusy, call{which: callDropVertex, id: 1})
	b.want(api.ErrStoreBusy, call{which: callDropVertex, id: 2})
	b.look()
}

func TestG2SetValueIsSeenInTheComponent(t *testing.T) {
	b := example(t)
	for i, value := range []int{1000, -1000, 0, maxValue, -maxValue, 25} {
		b.taken(call{which: callSetValue, id: 1 + i%5, n: value})
		b.look()
	}
	b.taken(call{which: callDropEdge, id: 14})
	b.look()
	b.taken(edgeOf(14, 5, 4, 1))
	b.look()
}

// All that may be wrong with an edge, in all ways together: the answer is what the promise names first.
func TestG3WhatIsNamedFirst(t *testing.T) {
	for _, full := range []bool{false, true} {
		room := 8
		if full {
			room = 4
		}
		b := newPair(t, 6, room)
		b.fill()
		for _, id := range append(noIDs, 11, 14, 15) {
			for _, ends := range [][2]int{{1, 2}, {5, 4}, {1, 1}, {9, 9}, {1, 9}, {9, 1}, {-1, 1}, {1, math.MaxInt}, {math.MinInt, math.MinInt}, {11, 12}} {
				for _, weight := range append(noValues, 0) {
					want := api.OK
					switch none := !b.p.Has(ends[0]) || !b.p.Has(ends[1]); {
					case !plainID(id) || !plainValue(weight):
						want = api.ErrArg
					case id != 15:
						want = api.ErrStoreTwice
					case none:
						want = api.ErrStoreNone
					case ends[0] == ends[1]:
						want = api.ErrStoreLoop
					case full:
						want = api.ErrStoreFull
					}
					b.want(want, edgeOf(id, ends[0], ends[1], weight))
					if want == api.OK {
						b.taken(call{which: callDropEdge, id: id})
					}
				}
			}
		}
		b.look()
	}
}

func TestG3NoSuchEdge(t *testing.T) {
	b := example(t)
	for _, id := range append(noIDs, 0, 1, 5, 10, 15, 11+1<<32) {
		b.want(api.ErrStoreNone, call{which: callDropEdge, id: id})
		for _, weight := range append(noValues, 3) {
			b.want(api.ErrStoreNone, call{which: callSetWeight, id: id, n: weight})
		}
	}
	for _, weight := range noValues {
		b.want(api.ErrArg, call{which: callSetWeight, id: 11, n: weight})
	}
	b.look()
	b.taken(call{which: callDropEdge, id: 12})
	b.want(api.ErrStoreNone, call{which: callDropEdge, id: 12})
	b.want(api.ErrStoreNone, call{which: callSetWeight, id: 12, n: 1})
	b.look()
}

// An edge of the ID of one that went may be another one altogether.
func TestG3AnIDAgain(t *testing.T) {
	b := example(t)
	for i, id := range []int{11, 14, 12, 13} {
		b.taken(call{which: callDropEdge, id: id})
		b.look()
		b.taken(edgeOf(id, 5, 1+i, 3*i-4))
		b.look()
	}
}

func TestG3SetWeight(t *testing.T) {
	b := example(t)
	for _, weight := range []int{4, 3, 5, 7, 8, 9, 10, maxValue, -maxValue, 2, 0} {
		for _, id := range []int{11, 12, 13, 14} {
			b.taken(call{which: callSetWeight, id: id, n: weight})
			b.look()
		}
	}
	// Ends and ID stay, and an edge as heavy as another one is told apart by its ID.
	wantText(t, "Edges", fmt.Sprint(b.x.Edges()), "[{11 1 2 0} {12 2 3 0} {13 1 3 0} {14 3 4 0}]")
	wantText(t, "Forest", fmt.Sprint(b.x.Forest()), "[11 12 14]")
}

// A full store may still change its weights.
func TestG3SetWeightOfAFullStore(t *testing.T) {
	b := newPair(t, 9, 192)
	for id := range 9 {
		b.taken(vertexOf(id, id))
	}
	for id := range 192 {
		b.taken(edgeOf(id, id%9, (id+1+id/9%4)%9, id%13))
	}
	for id := range 192 {
		b.taken(call{which: callSetWeight, id: id, n: (7 * id) % 11})
		if id%24 == 0 {
			b.do(call{which: callForest}, call{which: callBridges}, call{which: callEdges})
		}
	}
	b.do(call{which: callBottleneck, u: 0, v: 5}, call{which: callForest})
}

func TestG4Names(t *testing.T) {
	b := example(t)
	for _, name := range append(noNames, strings.Fields(theWords)...) {
		b.want(api.ErrSetName, call{which: callAddSet, name: name})
		b.want(api.ErrSetNone, call{which: callDropSet, name: name})
		b.want(api.ErrSetNone, call{which: callPut, name: name, id: 1})
		b.want(api.ErrSetNone, call{which: callTake, name: name, id: 9})
		b.do(call{which: callMembers, name: name})
	}
	for _, name := range []string{"a", "z9_", "twelve_bytes", "alls", "v"} {
		b.taken(call{which: callAddSet, name: name})
		b.want(api.ErrSetTwice, call{which: callAddSet, name: name})
	}
	b.look()
}

func TestG4Sixteen(t *testing.T) {
	b := example(t)
	for i := range 15 {
		b.taken(call{which: callAddSet, name: "s" + fmt.Sprint(i)})
	}
	b.want(api.ErrSetFull, call{which: callAddSet, name: "more"})
	b.want(api.ErrSetTwice, call{which: callAddSet, name: "s3"})
	b.want(api.ErrSetName, call{which: callAddSet, name: "sum"})
	b.look()
	b.taken(call{which: callDropSet, name: "few"})
	b.want(api.ErrSetNone, call{which: callDropSet, name: "few"})
	b.taken(call{which: callAddSet, name: "more"})
	b.want(api.ErrSetFull, call{which: callAddSet, name: "few"})
	b.look()
}

func TestG4PutAndTake(t *testing.T) {
	b := example(t)
	for _, id := range append(noIDs, 0, 6, 11) {
		for which := callPut; which <= callTake; which++ {
			b.want(api.ErrStoreNone, call{which: which, name: "few", id: id})
			b.want(api.ErrSetNone, call{which: which, name: "none", id: id})
		}
	}
	b.want(api.ErrSetNone, call{which: callPut, name: "none", id: 1})
	b.want(api.ErrSetNone, call{which: callTake, name: "none", id: 1})
	b.look()
	for _, id := range []int{1, 1, 3, 2, 5, 4, 4} {
		b.taken(call{which: callTake, name: "few", id: id})
		b.look()
	}
	for _, id := range []int{5, 1, 5, 3, 1} {
		b.taken(call{which: callPut, name: "few", id: id})
		b.look()
	}
	// A set that comes again is empty.
	b.taken(call{which: callDropSet, name: "few"})
	b.taken(call{which: callAddSet, name: "few"})
	wantText(t, "few", do(b.x, call{which: callMembers, name: "few"}), "[] 0")
	b.look()
}

// wantNone asks for all that can be known of one that is no vertex.
func wantNone(t *testing.T, x *store.Store, id int) {
	t.Helper()
	for _, c := range []call{{which: callValue}, {which: callDegree}, {which: callSize}, {which: callTotal}, {which: callLeast}, {which: callMost}, {which: callRep}} {
		c.id = id
		wantText(t, fmt.Sprintf("%+v", c), do(x, c), "0 102")
	}
	wantText(t, "Has", fmt.Sprint(x.Has(id)), "false")
	wantText(t, "Around", fmt.Sprint(x.Around(id)), "[] 102")
	for _, p := range [][2]int{{id, id}, {id, 1}, {1, id}} {
		wantText(t, "Connected", fmt.Sprint(x.Connected(p[0], p[1])), "false 102")
		wantText(t, "Block", fmt.Sprint(x.Block(p[0], p[1])), "false 102")
		wantText(t, "Bottleneck", fmt.Sprint(x.Bottleneck(p[0], p[1])), "0 102")
	}
}

func TestG5ToG8NoSuchVertex(t *testing.T) {
	x := example(t).x
	for _, id := range append(noIDs, 0, 6, 9, 11, 64, 1+1<<32, maxID) {
		wantNone(t, x, id)
	}
	empty := fresh(t, 4, 4)
	for _, id := range append(noIDs, 0, 1, 2, 3, 4, maxID) {
		wantNone(t, empty, id)
	}
}

// Several edges between two count each; so does one end of each only.
func TestG5Degree(t *testing.T) {
	b := newPair(t, 5, 20)
	for id := range 5 {
		b.taken(vertexOf(id, 0))
	}
	for id := range 20 {
		b.taken(edgeOf(id, id%2, 1+id%2+id%3, id))
		for v := range 5 {
			b.do(call{which: callDegree, id: v})
		}
	}
	for id := range 20 {
		b.taken(call{which: callDropEdge, id: (7 * id) % 20})
		for v := range 5 {
			b.do(call{which: callDegree, id: v})
		}
	}
}

func TestG8NoSuchSet(t *testing.T) {
	x := example(t).x
	for _, name := range append(noNames, "none", "fe", "fewer", "few ") {
		if l, e := x.Members(name); len(l) != 0 || e != api.ErrSetNone {
			t.Errorf("Members(%q): %v, %d", name, l, e)
		}
	}
}

// What comes first is not what is told first.
func TestG9ListsRise(t *testing.T) {
	b := newPair(t, 8, 8)
	for _, id := range []int{40, 7, maxID, 0, 12, 3} {
		b.taken(vertexOf(id, -id))
		b.look()
	}
	for i, id := range []int{9, 100, 2, maxID, 0, 31} {
		b.taken(edgeOf(id, []int{40, 7, 12, 0, 3, 7}[i], []int{7, maxID, 40, 12, 0, 40}[i], i))
		b.look()
	}
	for _, name := range []string{"b", "a_", "a9", "aa", "a", "z", "ab"} {
		b.taken(call{which: callAddSet, name: name})
		b.taken(call{which: callPut, name: name, id: 40})
		b.taken(call{which: callPut, name: name, id: 3})
		b.look()
	}
	wantText(t, "Sets", do(b.x, call{which: callSets}), `["a" "a9" "a_" "aa" "ab" "b" "z"]`)
	wantText(t, "a_", do(b.x, call{which: callMembers, name: "a_"}), "[3 40] 0")
}
