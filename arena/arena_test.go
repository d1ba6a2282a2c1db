package arena_test

import (
	"math"
	"runtime"
	"slices"
	"testing"
	"weak"

	"isthmus/api"
	"isthmus/arena"
)

var noHandles = []int{0, -1, math.MinInt, math.MaxInt, api.MaxArena + 1, 1 << 32, -1 << 32}

// plain is an arena by the words of the chapter: which handle comes next is looked for in the list of all that was dropped ever.
type plain struct {
	room, given int
	kept        map[int]int
	dropped     []int
}

func newPlain(room int) *plain { return &plain{room: room, kept: map[int]int{}} }

func (p *plain) put(v int) (int, api.Errno) {
	if len(p.kept) >= p.room {
		return 0, api.ErrArenaFull
	}
	for i := len(p.dropped) - 1; i >= 0; i-- {
		if _, used := p.kept[p.dropped[i]]; !used {
			p.kept[p.dropped[i]] = v
			return p.dropped[i], api.OK
		}
	}
	p.given++
	p.kept[p.given] = v
	return p.given, api.OK
}

func (p *plain) drop(h int) api.Errno {
	if _, used := p.kept[h]; !used {
		return api.ErrArenaNone
	}
	delete(p.kept, h)
	p.dropped = append(p.dropped, h)
	return api.OK
}

func (p *plain) get(h int) (int, api.Errno) {
	v, used := p.kept[h]
	if !used {
		return 0, api.ErrArenaNone
	}
	return v, api.OK
}

func (p *plain) set(h, v int) api.Errno {
	if _, used := p.kept[h]; !used {
		return api.ErrArenaNone
	}
	p.kept[h] = v
	return api.OK
}

func (p *plain) all() []int {
	var l []int
	for h := range p.kept {
		l = append(l, h)
	}
	slices.Sort(l)
	return l
}

// The calls that change something.
const (
	callPut = iota
	callDrop
	callSet
)

type call struct{ which, h, v int }

// pair is an arena beside a plain one, to which the same is done.
type pair struct {
	t *testing.T
	a *arena.Arena[int]
	p *plain
}

func newPair(t *testing.T, room int) pair {
	t.Helper()
	return pair{t, fresh[int](t, room), newPlain(room)}
}

func (b pair) do(c call) {
	b.t.Helper()
	var h, wantH int
	var e, wantE api.Errno
	switch c.which {
	case callPut:
		h, e = b.a.Put(c.v)
		wantH, wantE = b.p.put(c.v)
	case callDrop:
		e, wantE = b.a.Drop(c.h), b.p.drop(c.h)
	case callSet:
		e, wantE = b.a.Set(c.h, c.v), b.p.set(c.h, c.v)
	}
	if h != wantH || e != wantE {
		b.t.Errorf("call %v: %d, %d; want %d, %d", c, h, e, wantH, wantE)
	}
}

// look asks for all that an arena tells.
func (b pair) look(done any) {
	b.t.Helper()
	if n := b.a.Len(); n != len(b.p.kept) {
		b.t.Errorf("after %v: Len %d, want %d", done, n, len(b.p.kept))
	}
	if l := b.a.All(); !slices.Equal(l, b.p.all()) {
		b.t.Errorf("after %v: All %v, want %v", done, l, b.p.all())
	}
	for h := -1; h <= b.p.given+2; h++ {
		v, e := b.a.Get(h)
		wantV, wantE := b.p.get(h)
		if v != wantV || e != wantE {
			b.t.Errorf("after %v: Get(%d) %d, %d; want %d, %d", done, h, v, e, wantV, wantE)
		}
	}
}

func fresh[T any](t *testing.T, room int) *arena.Arena[T] {
	t.Helper()
	a, e := arena.New[T](room)
	if a == nil || e != api.OK {
		t.Fatalf("New(%d): %v, %d", room, a, e)
	}
	return a
}

func wantPut[T any](t *testing.T, a *arena.Arena[T], v T, want int) {
	t.Helper()
	if h, e := a.Put(v); h != want || e != api.OK {
		t.Errorf("Put(%v): %d, %d; want %d", v, h, e, want)
	}
}

func wantFull[T any](t *testing.T, a *arena.Arena[T], v T) {
	t.Helper()
	if h, e := a.Put(v); h != 0 || e != api.ErrArenaFull {
		t.Errorf("Put(%v): %d, %d; want 0, %d", v, h, e, api.ErrArenaFull)
	}
}

func wantDrop[T any](t *testing.T, a *arena.Arena[T], h int, want api.Errno) {
	t.Helper()
	if e := a.Drop(h); e != want {
		t.Errorf("Drop(%d): %d, want %d", h, e, want)
	}
}

func wantAll[T any](t *testing.T, a *arena.Arena[T], want ...int) {
	t.Helper()
	if l := a.All(); a.Len() != len(want) || !slices.Equal(l, want) {
		t.Errorf("Len %d, All %v; want %v", a.Len(), l, want)
	}
}

func wantGet[T comparable](t *testing.T, a *arena.Arena[T], h int, want T) {
	t.Helper()
	if v, e := a.Get(h); v != want || e != api.OK {
		t.Errorf("Get(%d): %v, %d; want %v", h, v, e, want)
	}
}

func wantNone[T comparable](t *testing.T, a *arena.Arena[T], h int, other T) {
	t.Helper()
	var zero T
	if v, e := a.Get(h); v != zero || e != api.ErrArenaNone {
		t.Errorf("Get(%d): %v, %d; want %v, %d", h, v, e, zero, api.ErrArenaNone)
	}
	if e := a.Set(h, other); e != api.ErrArenaNone {
		t.Errorf("Set(%d): %d, want %d", h, e, api.ErrArenaNone)
	}
	wantDrop(t, a, h, api.ErrArenaNone)
}

func TestH1Room(t *testing.T) {
	for _, room := range []int{-1, api.MaxArena + 1, math.MinInt, math.MaxInt, 1 << 32, -1 << 32} {
		if a, e := arena.New[int](room); a != nil || e != api.ErrArg {
			t.Errorf("New(%d): %v, %d; want nil, %d", room, a, e, api.ErrArg)
		}
	}
	for _, room := range []int{0, 1, 2, 7, 8, 9, 100, api.MaxArena - 1, api.MaxArena} {
		a := fresh[int](t, room)
		wantAll(t, a)
		for h := 1; h <= room; h++ {
			wantPut(t, a, -h, h)
		}
		wantFull(t, a, 7)
		for h := 1; h <= room; h++ {
			wantGet(t, a, h, -h)
		}
		if l := a.All(); a.Len() != room || len(l) != room {
			t.Errorf("room %d: Len %d, and %d in All", room, a.Len(), len(l))
		}
	}
}

func TestH2Example(t *testing.T) {
	a := fresh[string](t, 2)
	wantPut(t, a, "a", 1)
	wantPut(t, a, "b", 2)
	wantFull(t, a, "c")
	wantDrop(t, a, 1, api.OK)
	wantDrop(t, a, 2, api.OK)
	wantPut(t, a, "d", 2)
	wantPut(t, a, "e", 1)
	wantGet(t, a, 1, "e")
	wantGet(t, a, 2, "d")
	wantAll(t, a, 1, 2)
}

func TestH2FreeOnesFirst(t *testing.T) {
	a := fresh[int](t, 9)
	for h := 1; h <= 5; h++ {
		wantPut(t, a, h, h)
	}
	wantDrop(t, a, 2, api.OK)
	wantDrop(t, a, 4, api.OK)
	wantPut(t, a, 40, 4)
	wantDrop(t, a, 1, api.OK)
	wantPut(t, a, 10, 1)
	wantPut(t, a, 20, 2)
	wantPut(t, a, 60, 6)
	wantAll(t, a, 1, 2, 3, 4, 5, 6)
}

func TestH2FullTakesNothing(t *testing.T) {
	a := fresh[int](t, 1)
	wantPut(t, a, 5, 1)
	wantFull(t, a, 6)
	wantFull(t, a, 7)
	wantGet(t, a, 1, 5)
	wantAll(t, a, 1)
	wantDrop(t, a, 1, api.OK)
	wantPut(t, a, 8, 1)
	wantFull(t, a, 9)
	wantFull(t, fresh[int](t, 0), 7)
}

func TestH3NoSuchHandle(t *testing.T) {
	empty, a := fresh[string](t, 0), fresh[string](t, 3)
	wantPut(t, a, "a", 1)
	wantPut(t, a, "b", 2)
	wantDrop(t, a, 1, api.OK)
	for _, h := range append(noHandles, 1, 3, 4) {
		wantNone(t, a, h, "x")
		wantNone(t, empty, h, "x")
	}
	wantGet(t, a, 2, "b")
	wantAll(t, a, 2)
	wantPut(t, a, "c", 1)
	wantPut(t, a, "d", 3)
	wantAll(t, empty)
}

func TestH3DropTwice(t *testing.T) {
	a := fresh[int](t, 3)
	wantPut(t, a, 1, 1)
	wantPut(t, a, 2, 2)
	wantDrop(t, a, 1, api.OK)
	wantDrop(t, a, 1, api.ErrArenaNone)
	wantPut(t, a, 3, 1)
	wantPut(t, a, 4, 3)
	wantDrop(t, a, 1, api.OK)
	wantDrop(t, a, 1, api.ErrArenaNone)
}

func TestH3GetOfWhatIsGone(t *testing.T) {
	a := fresh[int](t, 2)
	wantPut(t, a, 5, 1)
	wantDrop(t, a, 1, api.OK)
	wantNone(t, a, 1, 6)
	wantPut(t, a, 0, 1)
	wantGet(t, a, 1, 0)
	if e := a.Set(1, 9); e != api.OK {
		t.Errorf("Set: %d", e)
	}
	wantGet(t, a, 1, 9)
	wantGet(t, a, 1, 9)
}

func TestH4RisingWhateverTheOrder(t *testing.T) {
	a := fresh[int](t, 8)
	wantAll(t, a)
	for h := 1; h <= 8; h++ {
		wantPut(t, a, h, h)
	}
	for _, h := range []int{5, 1, 8, 3} {
		wantDrop(t, a, h, api.OK)
	}
	wantAll(t, a, 2, 4, 6, 7)
	wantPut(t, a, 0, 3)
	wantPut(t, a, 0, 8)
	wantAll(t, a, 2, 3, 4, 6, 7, 8)
	for _, h := range []int{2, 3, 4, 6, 7, 8} {
		wantDrop(t, a, h, api.OK)
	}
	wantAll(t, a)
}

func TestH4AnswersAreNewMemory(t *testing.T) {
	a := fresh[int](t, 9)
	for h := 1; h <= 5; h++ {
		wantPut(t, a, h, h)
	}
	wantDrop(t, a, 3, api.OK)
	one, other := a.All(), a.All()
	for _, l := range [][]int{one[:cap(one)], append(one, 77)} {
		for i := range l {
			l[i] = 99
		}
	}
	if !slices.Equal(other, []int{1, 2, 4, 5}) {
		t.Errorf("another answer became %v", other)
	}
	wantAll(t, a, 1, 2, 4, 5)
	wantPut(t, a, 6, 3)
	wantDrop(t, a, 1, api.OK)
	if !slices.Equal(other, []int{1, 2, 4, 5}) {
		t.Errorf("an older answer became %v", other)
	}
}

// calls are all that can be done to an arena of that room, with handles a little beyond it.
func calls(room int) []call {
	l := []call{{callPut, 0, 0}}
	for h := 0; h <= room+1; h++ {
		l = append(l, call{callDrop, h, 0}, call{callSet, h, 0})
	}
	return l
}

func TestH5AllOrdersOfFewCalls(t *testing.T) {
	const longest = 5
	for room := range 4 {
		choices := calls(room)
		var chosen [longest]int
		for more := true; more; more = nextChoice(chosen[:], len(choices)) {
			b := newPair(t, room)
			done := make([]call, 0, longest)
			for i, k := range chosen {
				c := choices[k]
				c.v = 10 + i
				done = append(done, c)
				b.do(c)
			}
			b.look(done)
			if t.Failed() {
				return
			}
		}
	}
}

// nextChoice counts on, as a number's digits do; it answers whether there was one more.
func nextChoice(chosen []int, base int) bool {
	for i := range chosen {
		if chosen[i]++; chosen[i] < base {
			return true
		}
		chosen[i] = 0
	}
	return false
}

func TestH5ManyCalls(t *testing.T) {
	x := uint64(88172645463325252)
	next := func(below int) int {
		x ^= x << 13
		x ^= x >> 7
		x ^= x << 17
		return int(x % uint64(below))
	}
	for _, room := range []int{1, 5, 16, 60} {
		b := newPair(t, room)
		for i := range 6000 {
			// Now more is put in, now more is dropped, so that it is full at times and empty at times.
			which := callPut
			if tilt := 1 + 3*(i/300%2); next(5) < tilt {
				which = callDrop
			}
			if next(4) == 0 {
				which = callSet
			}
			c := call{which, next(room+3) - 1, i}
			b.do(c)
			b.look(c)
			if t.Failed() {
				return
			}
		}
	}
}

func TestH5GivenInTheOppositeOrder(t *testing.T) {
	const room = api.MaxArena
	a := fresh[int](t, room)
	for h := 1; h <= room; h++ {
		wantPut(t, a, h, h)
	}
	var dropped []int
	for h := 1; h != 1 || len(dropped) == 0; h = 1 + (h-1+1601)%room {
		wantDrop(t, a, h, api.OK)
		dropped = append(dropped, h)
	}
	if len(dropped) != room || a.Len() != 0 {
		t.Fatalf("%d dropped, %d in use", len(dropped), a.Len())
	}
	for _, h := range slices.Backward(dropped) {
		wantPut(t, a, -h, h)
	}
	wantFull(t, a, 0)
	for h := 1; h <= room; h++ {
		wantGet(t, a, h, -h)
	}
}

func TestArenasAreApart(t *testing.T) {
	a, b := fresh[int](t, 2), fresh[int](t, 2)
	wantPut(t, a, 1, 1)
	wantPut(t, a, 2, 2)
	wantPut(t, b, 3, 1)
	wantDrop(t, a, 1, api.OK)
	wantGet(t, b, 1, 3)
	wantAll(t, b, 1)
	wantPut(t, b, 4, 2)
	wantAll(t, a, 2)
	wantGet(t, a, 2, 2)
}

func TestThingsAsTheyAre(t *testing.T) {
	n := 5
	pointers := fresh[*int](t, 1)
	wantPut(t, pointers, &n, 1)
	wantGet(t, pointers, 1, &n)
	wantDrop(t, pointers, 1, api.OK)
	wantNone(t, pointers, 1, &n)

	list := make([]int, 2, 4)
	lists := fresh[[]int](t, 1)
	wantPut(t, lists, list, 1)
	got, e := lists.Get(1)
	if e != api.OK || len(got) != 2 || cap(got) != 4 || &got[0] != &list[0] {
		t.Errorf("a list came back as %v (%d), %d", got, cap(got), e)
	}
	if v, e := lists.Get(2); v != nil || e != api.ErrArenaNone {
		t.Errorf("Get(2) of lists: %v, %d", v, e)
	}

	floats := fresh[float64](t, 1)
	wantPut(t, floats, math.NaN(), 1)
	if v, e := floats.Get(1); !math.IsNaN(v) || e != api.OK {
		t.Errorf("NaN came back as %v, %d", v, e)
	}

	nothings := fresh[struct{}](t, 2)
	wantPut(t, nothings, struct{}{}, 1)
	wantPut(t, nothings, struct{}{}, 2)
	wantFull(t, nothings, struct{}{})
	wantDrop(t, nothings, 1, api.OK)
	wantNone(t, nothings, 1, struct{}{})
	wantAll(t, nothings, 2)

	anything := fresh[any](t, 3)
	wantPut(t, anything, any(nil), 1)
	wantPut(t, anything, any("x"), 2)
	wantGet(t, anything, 1, nil)
	wantGet(t, anything, 2, any("x"))

	calls := fresh[func() int](t, 1)
	wantFunction(t, calls)
}

func wantFunction(t *testing.T, a *arena.Arena[func() int]) {
	t.Helper()
	a.Put(func() int { return 7 })
	if f, e := a.Get(1); e != api.OK || f == nil || f() != 7 {
		t.Errorf("a function came back otherwise, %d", e)
	}
	if f, e := a.Get(2); f != nil || e != api.ErrArenaNone {
		t.Errorf("Get(2) of functions: nil is %v, %d", f == nil, e)
	}
}

// TestDroppedThingsAreLetGo: no more is kept than there need be, and nothing can be asked for once it is dropped or another thing lies in its stead.
func TestDroppedThingsAreLetGo(t *testing.T) {
	type big [1000]int
	a := fresh[*big](t, 3)
	put := func() weak.Pointer[big] {
		v := new(big)
		if _, e := a.Put(v); e != api.OK {
			t.Fatalf("Put: %d", e)
		}
		return weak.Make(v)
	}
	dropped, replaced, kept := put(), put(), put()
	wantDrop(t, a, 1, api.OK)
	if e := a.Set(2, nil); e != api.OK {
		t.Errorf("Set: %d", e)
	}
	runtime.GC()
	if dropped.Value() != nil || replaced.Value() != nil {
		t.Errorf("held on to: the dropped one %v, the replaced one %v", dropped.Value() != nil, replaced.Value() != nil)
	}
	if v, e := a.Get(3); e != api.OK || v == nil || v != kept.Value() {
		t.Errorf("the kept one is gone: %d", e)
	}
	runtime.KeepAlive(a)
}
