package splay_test

import (
	"fmt"
	"go/ast"
	"go/parser"
	"go/token"
	"math"
	"path/filepath"
	"slices"
	"strings"
	"testing"

	"isthmus/api"
	"isthmus/splay"
)

var (
	noNodes    = []int{0, -1, math.MinInt, math.MaxInt, api.MaxSplay + 1, 1 << 32, -1 << 32, 1<<32 + 1}
	wrongItems = []api.Item{
		{Flags: 256}, {Flags: -1}, {Flags: math.MaxInt}, {Flags: math.MinInt}, {Flags: 1 << 32},
		{Value: 1<<40 + 1}, {Value: -1<<40 - 1, Counts: true}, {Value: math.MaxInt}, {Value: math.MinInt},
	}
	edgeItems = []api.Item{
		{}, {Flags: 255}, {Value: 1 << 40}, {Value: -1 << 40}, {Value: 1 << 40, Counts: true, Flags: 255}, {Value: -1 << 40, Counts: true},
	}
)

// pair is a forest beside a plain one, to which the same is done.
type pair struct {
	t *testing.T
	f *splay.Forest
	p *plain
}

func newPair(t *testing.T, room int) pair {
	t.Helper()
	return pair{t, fresh(t, room), newPlain(room)}
}

func fresh(t *testing.T, room int) *splay.Forest {
	t.Helper()
	f, e := splay.New(room)
	if f == nil || e != api.OK {
		t.Fatalf("New(%d): %v, %d", room, f, e)
	}
	return f
}

// do makes calls to both, which must answer the same.
func (b pair) do(calls ...call) {
	b.t.Helper()
	for _, c := range calls {
		got, want := do(b.f, c), do(b.p, c)
		if got != want {
			b.t.Errorf("call %+v: %s, want %s", c, got, want)
		}
	}
}

// look asks for all that can be known of the nodes from -1 to a little beyond those that were given.
func (b pair) look() {
	b.t.Helper()
	for h := -1; h <= b.p.given+2; h++ {
		b.do(call{which: callGet, a: h}, call{which: callAll, a: h}, call{which: callSum, a: h}, call{which: callRank, a: h})
		for other := -1; other <= b.p.given+2; other++ {
			b.do(call{which: callAt, a: h, b: other}, call{which: callSame, a: h, b: other})
		}
		for _, flags := range []int{0, 1, 2, 4, 6, 128, 255} {
			b.do(call{which: callFlagged, a: h, b: flags})
		}
	}
}

func (b pair) make(items ...api.Item) {
	b.t.Helper()
	for _, x := range items {
		b.do(call{which: callMake, x: x})
	}
}

// row makes nodes 1 to the number of items, in one sequence.
func (b pair) row(items ...api.Item) {
	b.t.Helper()
	b.make(items...)
	for h := 2; h <= len(items); h++ {
		b.do(call{which: callJoin, a: h - 1, b: h})
	}
}

func wantErr(t *testing.T, what string, e, want api.Errno) {
	t.Helper()
	if e != want {
		t.Errorf("%s: %d, want %d", what, e, want)
	}
}

func wantNode(t *testing.T, what string, h int, e api.Errno, want int) {
	t.Helper()
	if h != want || e != api.OK {
		t.Errorf("%s: %d, %d; want %d", what, h, e, want)
	}
}

func wantZero(t *testing.T, what string, n int, e, want api.Errno) {
	t.Helper()
	if n != 0 || e != want {
		t.Errorf("%s: %d, %d; want 0, %d", what, n, e, want)
	}
}

func wantAll(t *testing.T, f *splay.Forest, h int, want ...int) {
	t.Helper()
	if l, e := f.All(h); !slices.Equal(l, want) || e != api.OK {
		t.Errorf("All(%d): %v, %d; want %v", h, l, e, want)
	}
}

// chapterRow is the first example's forest.
func chapterRow(t *testing.T) *splay.Forest {
	t.Helper()
	f := fresh(t, 3)
	for i, x := range []api.Item{{Value: 5, Counts: true, Flags: 1}, {Value: 7, Flags: 2}, {Value: -3, Counts: true}} {
		h, e := f.Make(x)
		wantNode(t, "Make", h, e, i+1)
	}
	wantErr(t, "Join(1, 2)", f.Join(1, 2), api.OK)
	wantErr(t, "Join(2, 3)", f.Join(2, 3), api.OK)
	return f
}

func TestS1Room(t *testing.T) {
	for _, room := range []int{-1, api.MaxSplay + 1, math.MinInt, math.MaxInt, 1 << 32, -1 << 32, api.MaxArena} {
		if f, e := splay.New(room); f != nil || e != api.ErrArg {
			t.Errorf("New(%d): %v, %d; want nil, %d", room, f, e, api.ErrArg)
		}
	}
	for _, room := range []int{0, 1, 2, 7, 100, api.MaxSplay - 1, api.MaxSplay} {
		f := fresh(t, room)
		_, e := f.Get(1)
		wantErr(t, "Get(1) of an empty forest", e, api.ErrSplayNone)
		for want := 1; want <= room; want++ {
			h, e := f.Make(api.Item{Value: want})
			wantNode(t, "Make", h, e, want)
		}
		h, e := f.Make(api.Item{})
		wantZero(t, "Make beyond the room", h, e, api.ErrSplayFull)
	}
}

func TestExampleOne(t *testing.T) {
	f := chapterRow(t)
	h, e := f.Make(api.Item{})
	wantZero(t, "Make", h, e, api.ErrSplayFull)
	wantAll(t, f, 3, 1, 2, 3)
	if a, e := f.Sum(2); a != (api.Agg{Count: 2, Sum: 2, Least: -3, Most: 5, Flags: 3}) || e != api.OK {
		t.Errorf("Sum(2): %+v, %d", a, e)
	}
	h, e = f.Flagged(1, 2)
	wantNode(t, "Flagged(1, 2)", h, e, 2)
	h, e = f.Flagged(1, 6)
	wantNode(t, "Flagged(1, 6)", h, e, 2)
	h, e = f.Flagged(1, 4)
	wantZero(t, "Flagged(1, 4)", h, e, api.ErrSplayFlag)
	n, e := f.Rank(3)
	wantNode(t, "Rank(3)", n, e, 2)
	h, e = f.At(1, 1)
	wantNode(t, "At(1, 1)", h, e, 2)
	h, e = f.At(1, 3)
	wantZero(t, "At(1, 3)", h, e, api.ErrSplayRank)
}

func TestExampleTwo(t *testing.T) {
	f := chapterRow(t)
	for range 2 {
		wantErr(t, "Split(2)", f.Split(2), api.OK)
		wantAll(t, f, 1, 1)
		wantAll(t, f, 3, 2, 3)
	}
	if same, e := f.Same(1, 2); same || e != api.OK {
		t.Errorf("Same(1, 2): %t, %d", same, e)
	}
	wantErr(t, "Free(2)", f.Free(2), api.ErrSplayBusy)
	wantErr(t, "Free(1)", f.Free(1), api.OK)
	h, e := f.Make(api.Item{})
	wantNode(t, "Make", h, e, 1)
	wantErr(t, "Join(2, 3)", f.Join(2, 3), api.ErrSplaySame)
	if x, e := f.Get(9); x != (api.Item{}) || e != api.ErrSplayNone {
		t.Errorf("Get(9): %+v, %d", x, e)
	}
	h, e = f.Make(api.Item{Flags: 256})
	wantZero(t, "Make", h, e, api.ErrArg)
}

func TestS2MakeWrongItems(t *testing.T) {
	f := fresh(t, 2)
	for _, x := range wrongItems {
		h, e := f.Make(x)
		wantZero(t, fmt.Sprintf("Make(%+v)", x), h, e, api.ErrArg)
	}
	for want := 1; want <= 2; want++ {
		h, e := f.Make(api.Item{})
		wantNode(t, "Make behind refused ones", h, e, want)
	}
	// Full as well: the wrong item is named first.
	for _, x := range wrongItems {
		h, e := f.Make(x)
		wantZero(t, fmt.Sprintf("Make(%+v) when full", x), h, e, api.ErrArg)
	}
	h, e := fresh(t, 0).Make(wrongItems[0])
	wantZero(t, "Make of no room", h, e, api.ErrArg)
}

func TestS2MakeEdgeItems(t *testing.T) {
	b := newPair(t, len(edgeItems))
	b.row(edgeItems...)
	b.look()
	for i, want := range edgeItems {
		if x, e := b.f.Get(i + 1); x != want || e != api.OK {
			t.Errorf("Get(%d): %+v, %d; want %+v", i+1, x, e, want)
		}
	}
}

func TestS2FreeOnlyWhatIsAlone(t *testing.T) {
	b := newPair(t, 3)
	b.row(api.Item{}, api.Item{}, api.Item{})
	// Whichever node was asked for last, none of a longer sequence is alone.
	for asked := 1; asked <= 3; asked++ {
		for h := 1; h <= 3; h++ {
			b.do(call{which: callRank, a: asked})
			wantErr(t, "Free", b.f.Free(h), api.ErrSplayBusy)
		}
	}
	wantAll(t, b.f, 2, 1, 2, 3)
	b.do(call{which: callSplit, a: 2}, call{which: callSplit, a: 3})
	for _, h := range []int{2, 1, 3} {
		wantErr(t, "Free", b.f.Free(h), api.OK)
		wantErr(t, "Free again", b.f.Free(h), api.ErrSplayNone)
	}
	for _, want := range []int{3, 1, 2} {
		h, e := b.f.Make(api.Item{Value: want})
		wantNode(t, "Make", h, e, want)
	}
	h, e := b.f.Make(api.Item{})
	wantZero(t, "Make", h, e, api.ErrSplayFull)
}

func TestS2NothingStaysOfWhatIsFreed(t *testing.T) {
	b := newPair(t, 3)
	b.row(api.Item{Value: 9, Counts: true, Flags: 7}, api.Item{Value: 8, Flags: 8}, api.Item{Value: 1, Counts: true})
	b.do(call{which: callSplit, a: 2}, call{which: callFree, a: 1})
	b.look()
	b.make(api.Item{Value: -2})
	b.look()
	b.do(call{which: callJoin, a: 3, b: 1})
	b.look()
}

func TestS3SetAndGet(t *testing.T) {
	b := newPair(t, 5)
	b.row(api.Item{Value: 1, Counts: true}, api.Item{Value: 2, Counts: true}, api.Item{Value: 3, Counts: true}, api.Item{Value: 4, Counts: true}, api.Item{Value: 5, Counts: true})
	for h := 1; h <= 5; h++ {
		for _, x := range edgeItems {
			// The one that is set lies at many depths.
			b.do(call{which: callRank, a: 1 + (h+x.Flags)%5}, call{which: callSet, a: h, x: x})
			if got, e := b.f.Get(h); got != x || e != api.OK {
				t.Errorf("Get(%d): %+v, %d; want %+v", h, got, e, x)
			}
			b.look()
		}
	}
}

func TestS3SetRefused(t *testing.T) {
	b := newPair(t, 2)
	b.row(api.Item{Value: 3, Counts: true, Flags: 1}, api.Item{Value: 4})
	for _, x := range wrongItems {
		wantErr(t, fmt.Sprintf("Set(1, %+v)", x), b.f.Set(1, x), api.ErrArg)
		for _, h := range append(noNodes, 3) {
			wantErr(t, fmt.Sprintf("Set(%d, %+v)", h, x), b.f.Set(h, x), api.ErrSplayNone)
			wantErr(t, fmt.Sprintf("Set(%d)", h), b.f.Set(h, api.Item{}), api.ErrSplayNone)
		}
	}
	b.look()
}

func TestS4JoinPutsBehind(t *testing.T) {
	f := fresh(t, 6)
	for range 6 {
		f.Make(api.Item{})
	}
	for _, p := range [][2]int{{1, 2}, {3, 4}, {4, 5}, {2, 3}, {6, 1}} {
		wantErr(t, "Join", f.Join(p[0], p[1]), api.OK)
	}
	for h := 1; h <= 6; h++ {
		wantAll(t, f, h, 6, 1, 2, 3, 4, 5)
	}
}

// Of all nodes of two sequences any two may be named in a join.
func TestS4JoinByWhicheverNode(t *testing.T) {
	for a := 1; a <= 4; a++ {
		for b := 5; b <= 7; b++ {
			for asked := 1; asked <= 7; asked++ {
				w := newPair(t, 7)
				w.make(make([]api.Item, 7)...)
				for _, h := range []int{2, 3, 4, 6, 7} {
					w.do(call{which: callJoin, a: h - 1, b: h})
				}
				w.do(call{which: callRank, a: asked}, call{which: callJoin, a: a, b: b})
				wantAll(t, w.f, asked, 1, 2, 3, 4, 5, 6, 7)
				w.do(call{which: callSplit, a: 5}, call{which: callJoin, a: b, b: a})
				wantAll(t, w.f, asked, 5, 6, 7, 1, 2, 3, 4)
			}
		}
	}
}

func TestS4JoinRefused(t *testing.T) {
	b := newPair(t, 5)
	b.row(api.Item{Value: 1}, api.Item{Value: 2}, api.Item{Value: 3})
	b.make(api.Item{Value: 4})
	for x := 1; x <= 3; x++ {
		for y := 1; y <= 3; y++ {
			wantErr(t, fmt.Sprintf("Join(%d, %d)", x, y), b.f.Join(x, y), api.ErrSplaySame)
		}
		for _, h := range append(noNodes, 5) {
			wantErr(t, fmt.Sprintf("Join(%d, %d)", x, h), b.f.Join(x, h), api.ErrSplayNone)
			wantErr(t, fmt.Sprintf("Join(%d, %d)", h, x), b.f.Join(h, x), api.ErrSplayNone)
			wantErr(t, fmt.Sprintf("Join(%d, %d)", h, h), b.f.Join(h, h), api.ErrSplayNone)
		}
	}
	wantErr(t, "Join(4, 4)", b.f.Join(4, 4), api.ErrSplaySame)
	b.look()
}

func TestS4SplitAnywhere(t *testing.T) {
	const long = 9
	for h := 1; h <= long; h++ {
		for asked := 1; asked <= long; asked++ {
			b := newPair(t, long)
			b.row(someItems(long)...)
			b.do(call{which: callRank, a: asked}, call{which: callSplit, a: h})
			b.look()
			// Now it is the first one: nothing changes.
			wantErr(t, "Split again", b.f.Split(h), api.OK)
			b.look()
		}
	}
	b := newPair(t, 2)
	b.row(api.Item{}, api.Item{})
	for _, h := range append(noNodes, 3) {
		wantErr(t, fmt.Sprintf("Split(%d)", h), b.f.Split(h), api.ErrSplayNone)
	}
	b.look()
}

func TestS5NoSuchNode(t *testing.T) {
	b := newPair(t, 4)
	b.row(api.Item{Flags: 1}, api.Item{Flags: 1})
	b.make(api.Item{})
	b.do(call{which: callFree, a: 3})
	for _, h := range append(noNodes, 3, 4) {
		for _, p := range [][2]int{{1, h}, {h, 1}, {h, h}} {
			if same, e := b.f.Same(p[0], p[1]); same || e != api.ErrSplayNone {
				t.Errorf("Same%v: %t, %d", p, same, e)
			}
		}
		n, e := b.f.Rank(h)
		wantZero(t, "Rank", n, e, api.ErrSplayNone)
		for _, n := range []int{-1, 0, 1, 9} {
			at, e := b.f.At(h, n)
			wantZero(t, "At", at, e, api.ErrSplayNone)
		}
		if l, e := b.f.All(h); len(l) != 0 || e != api.ErrSplayNone {
			t.Errorf("All(%d): %v, %d", h, l, e)
		}
		if a, e := b.f.Sum(h); a != (api.Agg{}) || e != api.ErrSplayNone {
			t.Errorf("Sum(%d): %+v, %d", h, a, e)
		}
		for _, flags := range []int{-1, 0, 1, 256} {
			at, e := b.f.Flagged(h, flags)
			wantZero(t, "Flagged", at, e, api.ErrSplayNone)
		}
		wantErr(t, "Free", b.f.Free(h), api.ErrSplayNone)
	}
	b.look()
}

func TestS5NoSuchPlace(t *testing.T) {
	b := newPair(t, 4)
	b.row(api.Item{}, api.Item{}, api.Item{})
	b.make(api.Item{})
	for h, long := range map[int]int{1: 3, 2: 3, 3: 3, 4: 1} {
		for _, n := range []int{-1, long, long + 1, math.MinInt, math.MaxInt, 1 << 32, -1 << 32} {
			at, e := b.f.At(h, n)
			wantZero(t, fmt.Sprintf("At(%d, %d)", h, n), at, e, api.ErrSplayRank)
		}
	}
	b.look()
}

func TestS5AnswersAreNewMemory(t *testing.T) {
	b := newPair(t, 5)
	b.row(someItems(5)...)
	one, _ := b.f.All(2)
	other, _ := b.f.All(3)
	for _, l := range [][]int{one[:cap(one)], append(one, 77)} {
		for i := range l {
			l[i] = 99
		}
	}
	b.look()
	b.do(call{which: callSplit, a: 3}, call{which: callJoin, a: 3, b: 1})
	if !slices.Equal(other, []int{1, 2, 3, 4, 5}) {
		t.Errorf("an older answer became %v", other)
	}
	b.look()
}

func TestS6SumOfWhatCounts(t *testing.T) {
	for _, c := range []struct {
		items []api.Item
		want  api.Agg
	}{
		{[]api.Item{{Value: 7}}, api.Agg{}},
		{[]api.Item{{Value: -7, Flags: 5}, {Value: 9, Flags: 130}}, api.Agg{Flags: 135}},
		{[]api.Item{{Value: 5, Counts: true}, {Value: -9}, {Value: 9}}, api.Agg{Count: 1, Sum: 5, Least: 5, Most: 5}},
		{[]api.Item{{Value: -9}, {Value: 9}, {Value: -5, Counts: true}}, api.Agg{Count: 1, Sum: -5, Least: -5, Most: -5}},
		{[]api.Item{{Value: 9}, {Value: 4, Counts: true}, {Value: -9}, {Value: 6, Counts: true}}, api.Agg{Count: 2, Sum: 10, Least: 4, Most: 6}},
		{[]api.Item{{Value: 0, Counts: true}, {Value: 3, Counts: true}}, api.Agg{Count: 2, Sum: 3, Least: 0, Most: 3}},
		{[]api.Item{{Value: -4, Counts: true}, {Value: -6, Counts: true}}, api.Agg{Count: 2, Sum: -10, Least: -6, Most: -4}},
	} {
		b := newPair(t, len(c.items))
		b.row(c.items...)
		for h := 1; h <= len(c.items); h++ {
			if a, e := b.f.Sum(h); a != c.want || e != api.OK {
				t.Errorf("Sum(%d) of %+v: %+v, %d; want %+v", h, c.items, a, e, c.want)
			}
		}
		b.look()
	}
}

func TestS6GreatSums(t *testing.T) {
	for _, value := range []int{api.MaxValue, -api.MaxValue} {
		b := newPair(t, api.MaxSplay)
		b.row(slices.Repeat([]api.Item{{Value: value, Counts: true}}, api.MaxSplay)...)
		want := api.Agg{Count: api.MaxSplay, Sum: value * api.MaxSplay, Least: value, Most: value}
		if a, e := b.f.Sum(500); a != want || e != api.OK {
			t.Errorf("Sum: %+v, %d; want %+v", a, e, want)
		}
	}
}

func TestS6FirstFlagged(t *testing.T) {
	b := newPair(t, 9)
	b.row(api.Item{}, api.Item{Flags: 4}, api.Item{Flags: 128}, api.Item{}, api.Item{Flags: 2}, api.Item{Flags: 6}, api.Item{Flags: 4}, api.Item{Flags: 1}, api.Item{})
	for h := 1; h <= 9; h++ {
		for asked := 1; asked <= 9; asked++ {
			for flags, want := range map[int]int{1: 8, 2: 5, 4: 2, 6: 2, 3: 5, 128: 3, 255: 2, 129: 3, 9: 8} {
				b.do(call{which: callRank, a: asked})
				at, e := b.f.Flagged(h, flags)
				wantNode(t, fmt.Sprintf("Flagged(%d, %d)", h, flags), at, e, want)
			}
			for _, flags := range []int{0, 8, 16, 32, 64, 120} {
				at, e := b.f.Flagged(h, flags)
				wantZero(t, fmt.Sprintf("Flagged(%d, %d)", h, flags), at, e, api.ErrSplayFlag)
			}
			for _, flags := range []int{-1, 256, 257, math.MinInt, math.MaxInt, 1<<32 + 1} {
				at, e := b.f.Flagged(h, flags)
				wantZero(t, fmt.Sprintf("Flagged(%d, %d)", h, flags), at, e, api.ErrArg)
			}
		}
	}
}

// someItems are unlike ones, some of which count and some of which have flags.
func someItems(n int) []api.Item {
	l := make([]api.Item, n)
	for i := range l {
		l[i] = api.Item{Value: (i*7919 + 13) % 101 * (1 - 2*(i%2)), Counts: i%3 != 1}
		if i%4 == 2 {
			l[i].Flags = 1 << (i % 8)
		}
	}
	return l
}

func TestS7CutAndJoinedAgain(t *testing.T) {
	const long = 12
	b := newPair(t, long)
	b.row(someItems(long)...)
	whole := []int{1, 2, 3, 4, 5, 6, 7, 8, 9, 10, 11, 12}
	for round := range 3 {
		for h := 2; h <= long; h++ {
			b.do(call{which: callSplit, a: h}, call{which: callJoin, a: 1 + round%(h-1), b: long - round%(long-h+1)})
			wantAll(t, b.f, 1+(h*5+round)%long, whole...)
			b.look()
		}
	}
	for h := 2; h <= long; h++ {
		b.do(call{which: callSplit, a: h})
	}
	for h := 1; h < long; h++ {
		b.do(call{which: callJoin, a: h + 1, b: h}, call{which: callSplit, a: h})
		b.look()
	}
}

func TestS7RankAndAt(t *testing.T) {
	b := newPair(t, 200)
	b.make(make([]api.Item, 200)...)
	for h := 2; h <= 200; h++ {
		if h%2 == 0 {
			b.do(call{which: callJoin, a: 1, b: h})
		} else {
			b.do(call{which: callJoin, a: h, b: 1})
		}
	}
	for h := 1; h <= 200; h++ {
		n, _ := b.f.Rank(h)
		at, e := b.f.At(1+h*37%200, n)
		wantNode(t, "At of Rank", at, e, h)
		n = h - 1
		at, _ = b.f.At(1+h*53%200, n)
		got, e := b.f.Rank(at)
		wantNode(t, "Rank of At", got, e, n)
	}
}

// Two forests are changed alike, but one of them is asked much in between.
func TestS7AskingLeavesNoTrace(t *testing.T) {
	next := numbers()
	quiet, asked := fresh(t, 12), fresh(t, 12)
	for range 4000 {
		c := someCall(next, 12, callGet)
		if one, other := do(quiet, c), do(asked, c); one != other {
			t.Fatalf("%+v: %s, and %s after questions", c, one, other)
		}
		for range next(6) {
			q := someCall(next, 12, callsInAll)
			if q.which >= callGet {
				do(asked, q)
			}
		}
	}
	for h := range 14 {
		for which := callGet; which < callsInAll; which++ {
			for n := -1; n < 14; n++ {
				c := call{which: which, a: h, b: n}
				if one, other := do(quiet, c), do(asked, c); one != other {
					t.Errorf("%+v: %s, and %s after questions", c, one, other)
				}
			}
		}
	}
}

// numbers are drawn one behind the other, always the same ones.
func numbers() func(below int) int {
	x := uint64(88172645463325252)
	return func(below int) int {
		x ^= x << 13
		x ^= x >> 7
		x ^= x << 17
		return int(x % uint64(below))
	}
}

// someCall is one of the calls below that number, with nodes a little beyond the room and now and then a wrong item.
func someCall(next func(int) int, room, below int) call {
	c := call{which: next(below), a: next(room+3) - 1, b: next(room+3) - 1}
	c.x = api.Item{Value: next(41) - 20, Counts: next(3) > 0}
	if next(3) == 0 {
		c.x.Flags = 1 << next(8)
	}
	if next(20) == 0 {
		c.x = wrongItems[next(len(wrongItems))]
	}
	if c.which == callFlagged {
		c.b = next(260) - 2
	}
	return c
}

func TestManyCallsBesideAPlainForest(t *testing.T) {
	next := numbers()
	for _, room := range []int{0, 1, 2, 3, 6, 20, 70} {
		b := newPair(t, room)
		for i := range 3000 {
			c := someCall(next, room, callsInAll)
			switch {
			// Sequences grow in one half of the time, and fall apart in the other.
			case i/500%2 == 0 && next(3) == 0:
				c.which = callMake + callJoin*next(2)
			case i/500%2 == 1 && next(3) == 0:
				c.which = callFree + (callSplit-callFree)*next(2)
			}
			b.do(c)
			if room < 7 || i%500 == 499 {
				b.look()
			}
			if t.Failed() {
				t.Fatalf("room %d, call %d", room, i)
			}
		}
	}
}

// All orders of a few changes on three nodes, and all that can be asked behind each.
func TestAllOrdersOfFewChanges(t *testing.T) {
	var choices []call
	for a := 1; a <= 3; a++ {
		choices = append(choices, call{which: callSplit, a: a}, call{which: callFree, a: a}, call{which: callSet, a: a, x: api.Item{Value: -a, Counts: true}})
		for b := 1; b <= 3; b++ {
			if a != b {
				choices = append(choices, call{which: callJoin, a: a, b: b})
			}
		}
	}
	choices = append(choices, call{which: callMake, x: api.Item{Value: 4, Flags: 4}})
	n := len(choices)
	for k := range n * n * n {
		b := newPair(t, 3)
		b.make(api.Item{Value: 1, Counts: true, Flags: 1}, api.Item{Value: 2}, api.Item{Value: 3, Flags: 6})
		for rest := k; rest > 0; rest /= n {
			b.do(choices[rest%n])
		}
		b.look()
		if t.Failed() {
			t.Fatalf("order %d", k)
		}
	}
}

// The longest sequences, come together in unlike orders: each way makes trees of another shape.
func TestLongestSequences(t *testing.T) {
	const long = api.MaxSplay
	for name, join := range map[string]func(b pair){
		"from the front": func(b pair) {
			for h := 2; h <= long; h++ {
				b.do(call{which: callJoin, a: h - 1, b: h})
			}
		},
		"from the back": func(b pair) {
			for h := long; h > 1; h-- {
				b.do(call{which: callJoin, a: h - 1, b: h})
			}
		},
		"in halves": func(b pair) {
			for step := 1; step < long; step *= 2 {
				for h := 1; h+step <= long; h += 2 * step {
					b.do(call{which: callJoin, a: h, b: h + step})
				}
			}
		},
	} {
		b := newPair(t, long)
		b.make(someItems(long)...)
		join(b)
		for _, h := range []int{1, 2, long / 2, long - 1, long} {
			b.do(call{which: callAll, a: h}, call{which: callSum, a: long + 1 - h}, call{which: callRank, a: h}, call{which: callFlagged, a: h, b: 64},
				call{which: callAt, a: h, b: long - h}, call{which: callAt, a: h, b: long}, call{which: callSplit, a: h}, call{which: callAll, a: long}, call{which: callSum, a: 1}, call{which: callJoin, a: 1, b: long})
		}
		for h := long; h > 1; h-- {
			b.do(call{which: callSplit, a: h}, call{which: callFree, a: h})
		}
		b.do(call{which: callAll, a: 1})
		if t.Failed() {
			t.Errorf("joined %s", name)
		}
	}
}

func TestForestsKnowNothingOfOneAnother(t *testing.T) {
	next := numbers()
	one, other := newPair(t, 8), newPair(t, 8)
	for i := range 2000 {
		b := one
		if i%2 == 0 {
			b = other
		}
		b.do(someCall(next, 8, callsInAll))
	}
	one.look()
	other.look()
}

// No function of the package may come back to itself over those that it calls, and so none goes deep.
func TestNoCallCallsItself(t *testing.T) {
	files, err := filepath.Glob("*.go")
	if err != nil {
		t.Fatal(err)
	}
	bodies := map[string]*ast.FuncDecl{}
	for _, name := range files {
		if strings.HasSuffix(name, "_test.go") {
			continue
		}
		file, err := parser.ParseFile(token.NewFileSet(), name, nil, 0)
		if err != nil {
			t.Fatal(err)
		}
		for _, d := range file.Decls {
			if fn, is := d.(*ast.FuncDecl); is {
				bodies[fn.Name.Name] = fn
			}
		}
	}
	if len(bodies) == 0 {
		t.Fatal("no function was found")
	}
	for name := range bodies {
		if reaches(bodies, name) {
			t.Errorf("%s calls itself", name)
		}
	}
}

// reaches asks whether a function comes back to itself.
func reaches(bodies map[string]*ast.FuncDecl, name string) bool {
	seen := map[string]int{}
	work := calledBy(bodies[name])
	for len(work) > 0 {
		next := work[0]
		work = work[1:]
		if next == name {
			return true
		}
		if seen[next]++; seen[next] == 1 && bodies[next] != nil {
			work = append(work, calledBy(bodies[next])...)
		}
	}
	return false
}

// calledBy are the names of all that a function calls of its own package: plain names, and methods of plain variables.
func calledBy(fn *ast.FuncDecl) []string {
	var names []string
	ast.Inspect(fn, func(n ast.Node) bool {
		c, is := n.(*ast.CallExpr)
		if !is {
			return true
		}
		switch f := c.Fun.(type) {
		case *ast.Ident:
			names = append(names, f.Name)
		case *ast.SelectorExpr:
			if of, plain := f.X.(*ast.Ident); plain && of.Name != "arena" && of.Name != "api" {
				names = append(names, f.Sel.Name)
			}
		}
		return true
	})
	return names
}
