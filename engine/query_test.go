package engine_test

import (
	"math"
	"slices"
	"sync"
	"testing"

	"isthmus/api"
	"isthmus/engine"
	"isthmus/guard"
	"isthmus/machine"
	"isthmus/store"
)

// What is told of a query in words.
func TestG2Told(t *testing.T) {
	q := compiled(t, "(count v in few:\n((connected(v,@1))))+size( @1 )*size(@1)", api.PassReps, api.PassHoist, api.PassShare)
	if text := q.Text(); text != "(count v in few: connected(v, @1)) + size(@1) * size(@1)" {
		t.Errorf("%q", text)
	}
	if p := q.Plan(); p.Root.Kind != api.EAdd || p.Root.Kids[0].Kids[1].Kind != api.EEq || !slices.Equal(p.Cells, []int{0, 0}) {
		t.Errorf("%v", p)
	}
	c := q.Code()
	if len(c.Words) != 25 || c.Words[24] != api.OpHalt || !slices.Equal(c.Consts, []int{0, 1}) || !slices.Equal(c.Names, []string{"few"}) || !slices.Equal(c.Cells, []int{api.KindVertex, api.KindInt}) {
		t.Errorf("%d words: %v", len(c.Words), c)
	}
	if limits := q.Limits(); limits != (api.Limits{Stack: 3, Rounds: 1, Kind: api.KindInt}) {
		t.Errorf("%v", limits)
	}
	for text, want := range map[string]api.Limits{
		"1": {Stack: 1, Kind: api.KindInt}, "true": {Stack: 1, Kind: api.KindBool}, "@9": {Stack: 1, Kind: api.KindVertex}, "1 + (2 + 3)": {Stack: 3, Kind: api.KindInt}, "rep(@1) = @1": {Stack: 2, Kind: api.KindBool},
		"all a in few: all b in few: all c in few: all d in few: a = d": {Stack: 2, Rounds: 4, Kind: api.KindBool}, "sum a in {@1, @2, @3, @4}: 1": {Stack: 4, Rounds: 1, Kind: api.KindInt},
	} {
		if limits := compiled(t, text).Limits(); limits != want {
			t.Errorf("%q: %v, wanted %v", text, limits, want)
		}
	}
}

// The bound is of its words, its rounds, and so many vertices, whatever number that is.
func TestG2Bound(t *testing.T) {
	for text, words := range map[string]int{"1": 2, "1 + 2": 4, "count v in few: v = @1": 11, "all a in few: all b in few: true": 16, "min a in few: max b in few: sum c in few: count d in few: true": 28} {
		q := compiled(t, text)
		rounds := q.Limits().Rounds
		if len(q.Code().Words) != words {
			t.Errorf("%q: %d words", text, len(q.Code().Words))
		}
		for _, vertices := range []int{0, 1, 5, 63, 64, 65, 1 << 20, 1 << 31, 1<<31 + 1, math.MaxInt, -1, -64, math.MinInt} {
			want, factor := words, 1+min(max(vertices, 0), 1<<31)
			for range rounds {
				if want > (1<<62)/factor {
					want, factor = 1<<62, 1
				}
				want *= factor
			}
			if got := q.Bound(vertices); got != want || got != guard.Bound(words, rounds, vertices) {
				t.Errorf("%q: Bound(%d) is %d, wanted %d", text, vertices, got, want)
			}
		}
	}
	if q := compiled(t, "1 + 2 * 3", api.PassFold); q.Bound(64) != 2 || q.Bound(-1) != 2 || q.Bound(math.MaxInt) != 2 {
		t.Error("without rounds")
	}
	if q := compiled(t, "count v in few: v = @1"); q.Bound(0) != 11 || q.Bound(-7) != 11 || q.Bound(5) != 66 {
		t.Error("with one round")
	}
}

// spoil writes into a list, and into all its room.
func spoil[T any](l []T, x T) {
	l = l[:cap(l)]
	for i := range l {
		l[i] = x
	}
}

// spoilKids tells of a list that was written into already: it shares its memory with another one.
func spoilKids(t *testing.T, n api.Node) {
	t.Helper()
	for _, kid := range n.Kids {
		spoilKids(t, kid)
	}
	if len(n.Kids) > 0 && n.Kids[0].Kind == -9 {
		t.Fatal("two lists share memory")
	}
	spoil(n.Kids, api.Node{Kind: -9})
}

// What comes out is new memory each time: it may be written into, and the query stays as it is.
func TestG2Memory(t *testing.T) {
	s := docGraph(t)
	next := numbers()
	a := asker{next: next}
	for i := range 600 {
		text := append(theQueries, a.query(1+i%3, 2+i%5))[min(i, len(theQueries))]
		list := drawnPasses(next, 8)
		if len(text) > 1500 {
			continue
		}
		list = append(make([]int, 0, 12), list...)
		spoil(list[len(list):cap(list)], 77)
		q := compiled(t, text, list...)
		if spare := list[len(list):cap(list)]; slices.ContainsFunc(spare, func(n int) bool { return n != 77 }) {
			t.Fatalf("%q: written behind the passes: %v", text, spare)
		}
		twin := compiled(t, text, list...)
		want, answer := toldOf(q).String(), [2]any{}
		answer[0], answer[1] = q.Ask(s, 5000)
		spoil(list, 99)
		for which := range 5 {
			p, c := q.Plan(), q.Code()
			spoilKids(t, p.Root)
			spoil(p.Cells, 99)
			[]func(){func() { spoil(c.Words, 99) }, func() { spoil(c.Consts, 99) }, func() { spoil(c.Names, "spoiled") }, func() { spoil(c.Cells, 99) }, func() {}}[which]()
			again := [2]any{}
			again[0], again[1] = q.Ask(s, 5000)
			if got := toldOf(q).String(); got != want || again != answer || toldOf(twin).String() != want {
				t.Fatalf("%q by %v: %s, %v; and then %s, %v", text, list, want, answer, got, again)
			}
		}
	}
}

// No two lists of code share memory.
func TestG2ListsApart(t *testing.T) {
	q := compiled(t, "sum v in few: size(@1) + value(v) * value(v) + 7", api.PassHoist, api.PassShare)
	want := q.Code()
	for which := range 4 {
		c := q.Code()
		switch which {
		case 0:
			spoil(c.Words, 99)
			c.Words = want.Words
		case 1:
			spoil(c.Consts, 99)
			c.Consts = want.Consts
		case 2:
			spoil(c.Names, "spoiled")
			c.Names = want.Names
		case 3:
			spoil(c.Cells, 99)
			c.Cells = want.Cells
		}
		if len(c.Cells) != 2 || !slices.Equal(c.Words, want.Words) || !slices.Equal(c.Consts, want.Consts) || !slices.Equal(c.Names, want.Names) || !slices.Equal(c.Cells, want.Cells) {
			t.Errorf("list %d shares memory: %v", which, c)
		}
	}
}

// Without a store there is no answer, whatever the query and the fuel.
func TestG3NoStore(t *testing.T) {
	var none *store.Store
	for _, text := range theQueries {
		for _, fuel := range []int{math.MinInt, -1, 0, 1, 2, 5, 1000000, math.MaxInt} {
			if a, steps := compiled(t, text, 1, 2, 3).Ask(none, fuel); a != (api.Answer{}) || steps != 0 {
				t.Errorf("%q with %d: %v, %d", text, fuel, a, steps)
			}
		}
	}
}

// What is asked is what the code runs to, with whatever fuel.
func TestG3Fuel(t *testing.T) {
	graphs := drawnGraphs(t, 6)
	for _, text := range theQueries {
		for _, list := range append(passLists(2), []int{1, 2, 3, 4}, []int{4, 3, 2, 1, 4, 3, 2, 1}) {
			q := compiled(t, text, list...)
			for i, s := range graphs {
				last, need := q.Ask(s, 1000000)
				for _, fuel := range []int{math.MinInt, -3, -1, 0, 1, 2, 3, i, 10 * i, need - 1, need, need + 1, 999999, 1000000, 1000001, math.MaxInt} {
					want, steps := last, need
					if fuel < need {
						want, steps = isFault(api.FaultFuel), max(fuel, 0)
					}
					a, n := q.Ask(s, fuel)
					b, m, e := machine.Run(q.Code(), s, fuel)
					if a != want || n != steps || b != want || m != steps || e != api.OK {
						t.Fatalf("%q by %v with %d: %v, %d; it runs to %v, %d, %d; wanted %v, %d", text, list, fuel, a, n, b, m, e, want, steps)
					}
				}
			}
		}
	}
}

// More fuel than there can be counts as 1000000: what needs more is out of it.
func TestG3MostFuel(t *testing.T) {
	s := newStore(t)
	for id := range 64 {
		s.AddVertex(id, id)
	}
	q := compiled(t, "sum a in vertices: sum b in vertices: sum c in vertices: sum d in vertices: 1", api.PassHoist)
	q4 := compiled(t, "sum a in vertices: sum b in vertices: sum c in vertices: sum d in around(a): value(d)")
	for _, fuel := range []int{1000000, 1000001, q4.Bound(64), math.MaxInt} {
		if a, steps := q4.Ask(s, fuel); a != isFault(api.FaultFuel) || steps != 1000000 {
			t.Errorf("with %d: %v, %d", fuel, a, steps)
		}
	}
	if a, steps := q4.Ask(s, 999999); a != isFault(api.FaultFuel) || steps != 999999 {
		t.Errorf("%v, %d", a, steps)
	}
	// What a round doesn't change is kept: of 64 times 64 times 64 rounds one is left.
	if a, steps := q.Ask(s, math.MaxInt); a != isInt(1<<24) || steps > 2000 {
		t.Errorf("%v, %d", a, steps)
	}
}

// A query is of no store: it may be asked of several, and of one that has changed since.
func TestG3Stores(t *testing.T) {
	q := compiled(t, "sum v in few: value(v) * size(v)", api.PassShare)
	s, other := newStore(t), docGraph(t)
	want := func(s *store.Store, want api.Answer) {
		t.Helper()
		if a, _ := q.Ask(s, 1000); a != want {
			t.Errorf("%v, wanted %v", a, want)
		}
	}
	want(s, isFault(api.FaultSet))
	want(other, isInt(10*4+40*4+50))
	s.AddSet("few")
	want(s, isInt(0))
	s.AddVertex(7, 3)
	s.AddVertex(8, 5)
	want(s, isInt(0))
	s.Put("few", 7)
	want(s, isInt(3))
	s.AddEdge(1, 7, 8, 0)
	want(s, isInt(6))
	want(other, isInt(10*4+40*4+50))
	s.Put("few", 8)
	want(s, isInt(16))
	s.DropEdge(1)
	want(s, isInt(8))
	s.DropVertex(7)
	want(s, isInt(5))
	s.DropSet("few")
	want(s, isFault(api.FaultSet))
}

// Queries that were made apart know nothing of one another, nor of how often they were asked; they may be asked at one time.
func TestG3Apart(t *testing.T) {
	var wait sync.WaitGroup
	shared := compiled(t, "sum v in vertices: size(@1) + value(v) * value(v)", api.PassHoist, api.PassShare)
	for i := range 8 {
		s := docGraph(t)
		s.SetValue(5, i)
		wait.Go(func() {
			for range 50 {
				q, _, _ := engine.Compile("value(@5)", []int{1 + i%4})
				a, _ := q.Ask(s, 100)
				b, _ := shared.Ask(s, 1000)
				shared.Plan().Root.Kids[0] = api.Node{}
				if a != isInt(i) || b != isInt(20+100+400+900+1600+i*i) {
					t.Errorf("%v, %v", a, b)
				}
			}
		})
	}
	wait.Wait()
}
