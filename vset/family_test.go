package vset_test

import (
	"fmt"
	"slices"
	"strings"
	"testing"

	"isthmus/api"
	"isthmus/vset"
)

// pair is a Family beside a plain one, to which the same is done.
type pair struct {
	t *testing.T
	f *vset.Family
	p *plain
}

func newPair(t *testing.T) pair {
	t.Helper()
	f := vset.NewFamily()
	if f == nil {
		t.Fatal("NewFamily: nil")
	}
	return pair{t, f, &plain{}}
}

// do makes a call to both, which must answer the same, and afterwards tell the same.
func (b pair) do(c call) string {
	b.t.Helper()
	got, want := do(b.f, c), do(b.p, c)
	if got != want {
		b.t.Fatalf("call %+v: %s, want %s; the sets: %v", c, got, want, b.p.members)
	}
	if is, should := told(b.f, c.name), told(b.p, c.name); is != should {
		b.t.Fatalf("after the call %+v: %s, want %s", c, is, should)
	}
	return got
}

func (b pair) add(names ...string) {
	b.t.Helper()
	for _, name := range names {
		if got := b.do(call{which: callAdd, name: name}); got != "0" {
			b.t.Fatalf("Add(%q): %s", name, got)
		}
	}
}

func (b pair) lay(name string, numbers ...int) {
	b.t.Helper()
	if got := b.do(call{which: callLay, name: name, set: of(b.t, numbers...)}); got != "0" {
		b.t.Fatalf("Lay(%q, %v): %s", name, numbers, got)
	}
}

// refused makes a call that must answer an error and leave no trace.
func (b pair) refused(want api.Errno, c call) {
	b.t.Helper()
	ahead := told(b.f, c.name)
	if got := b.do(c); got != fmt.Sprint(want) {
		b.t.Errorf("call %+v: %s, want %d", c, got, want)
	}
	if now := told(b.f, c.name); now != ahead {
		b.t.Errorf("call %+v was refused, and %s became %s", c, ahead, now)
	}
}

func wantSame(t *testing.T, f *vset.Family, want ...string) {
	t.Helper()
	var got []string
	for _, group := range f.Same() {
		got = append(got, strings.Join(group, " "))
	}
	if !slices.Equal(got, want) {
		t.Errorf("Same: %q, want %q", got, want)
	}
}

// sixteen are as many names as there may be.
func sixteen() []string {
	var names []string
	for i := range 16 {
		names = append(names, "s"+string([]byte{byte('a' + i*7%16)}))
	}
	return names
}

func TestExamplesOfFamilies(t *testing.T) {
	b := newPair(t)
	b.add("few", "none_1", "a9")
	b.refused(api.ErrSetTwice, call{which: callAdd, name: "few"})
	for _, name := range []string{"all", "Few", "9a", "", "thirteen_long"} {
		b.refused(api.ErrSetName, call{which: callAdd, name: name})
	}
	b.lay("few", 1)
	wantSame(t, b.f, "a9 none_1", "few")
	b.do(call{which: callPurge, n: 1})
	wantSame(t, b.f, "a9 few none_1")
	if s, e := b.f.Get("x"); s != (vset.Set{}) || e != api.ErrSetNone {
		t.Errorf("Get(x): %v, %d", s.All(), e)
	}
}

func TestV5ANewFamilyHasNoSets(t *testing.T) {
	f := vset.NewFamily()
	if names, groups := f.Names(), f.Same(); len(names) != 0 || len(groups) != 0 {
		t.Errorf("Names %q, Same %q", names, groups)
	}
	if e := f.Purge(0); e != api.OK {
		t.Errorf("Purge(0): %d", e)
	}
}

// wantName holds an Add to a new family against whether a text is a name.
func wantName(t *testing.T, text string, is bool) {
	t.Helper()
	if plainName(text) != is {
		t.Fatalf("the plain rule says %t of %q", !is, text)
	}
	f := vset.NewFamily()
	want := api.OK
	if !is {
		want = api.ErrSetName
	}
	if e := f.Add(text); e != want {
		t.Errorf("Add(%q): %d, want %d", text, e, want)
	}
	if s, e := f.Get(text); (e == api.OK) != is || s != (vset.Set{}) {
		t.Errorf("Get(%q): %v, %d", text, s.All(), e)
	}
}

func TestV5TheWordsAreNoNames(t *testing.T) {
	words := strings.Fields(theWords)
	if len(words) != 27 {
		t.Fatalf("there are %d words", len(words))
	}
	for _, w := range words {
		wantName(t, w, false)
		wantName(t, w+"_", true)
		wantName(t, w+"9", true)
		wantName(t, "x"+w, true)
		wantName(t, strings.ToUpper(w), false)
		wantName(t, w+" ", false)
		wantName(t, " "+w, false)
	}
	for _, text := range []string{"al", "an", "i", "o", "vertice", "bottlenec", "allor", "alland"} {
		wantName(t, text, true)
	}
}

// Each byte at the first place, between others and at the last one.
func TestV5EachByte(t *testing.T) {
	for b := range 256 {
		letter := b >= 'a' && b <= 'z'
		inner := letter || b >= '0' && b <= '9' || b == '_'
		x := string([]byte{byte(b)})
		wantName(t, x, letter)
		wantName(t, x+"q", letter)
		wantName(t, "q"+x, inner)
		wantName(t, "q"+x+"q", inner)
		wantName(t, "qqqqqqqqqqq"+x, inner)
		wantName(t, x+"qqqqqqqqqqq", letter)
		wantName(t, "qqqqqqqqqqqq"+x, false)
	}
	for _, text := range []string{"é", "aé", "a\u0430", "\u0430", "a\x00", "a\n", "\xff", "a b", "a-b", "_", "_a", "0", "a__9", "ab\u200b"} {
		wantName(t, text, plainName(text))
	}
}

func TestV5HowLong(t *testing.T) {
	for many := range 40 {
		wantName(t, strings.Repeat("a", many), many >= 1 && many <= 12)
	}
	for _, many := range []int{1 << 8, 1<<8 + 5, 1 << 16, 1<<16 + 5, 1 << 20} {
		wantName(t, strings.Repeat("a", many), false)
	}
	wantName(t, "connectedall", true)
	wantName(t, "a_0123456789", true)
	wantName(t, "a_0123456789_", false)
}

func TestV5Room(t *testing.T) {
	b := newPair(t)
	names := sixteen()
	b.add(names...)
	b.refused(api.ErrSetFull, call{which: callAdd, name: "more"})
	for _, name := range names {
		b.refused(api.ErrSetTwice, call{which: callAdd, name: name})
	}
	for _, name := range []string{"", "all", "More", "thirteen_long"} {
		b.refused(api.ErrSetName, call{which: callAdd, name: name})
	}
	b.lay(names[3], 1, 2, 3)
	b.do(call{which: callDrop, name: names[3]})
	b.add("more")
	b.refused(api.ErrSetFull, call{which: callAdd, name: names[3]})
	b.do(call{which: callDrop, name: "more"})
	b.add(names[3])
	if s, e := b.f.Get(names[3]); s != (vset.Set{}) || e != api.OK {
		t.Errorf("a set that came again has %v, %d", s.All(), e)
	}
}

func TestV5Drop(t *testing.T) {
	b := newPair(t)
	for _, name := range []string{"", "a", "all", "A"} {
		b.refused(api.ErrSetNone, call{which: callDrop, name: name})
	}
	b.add("a", "b", "ab")
	b.lay("a", 1)
	b.lay("b", 2)
	b.lay("ab", 3)
	for _, name := range []string{"", "all", "A", "a ", "abc", "ba", "a\x00"} {
		b.refused(api.ErrSetNone, call{which: callDrop, name: name})
	}
	b.do(call{which: callDrop, name: "a"})
	b.refused(api.ErrSetNone, call{which: callDrop, name: "a"})
	b.refused(api.ErrSetNone, call{which: callLay, name: "a", set: of(t, 9)})
	wantSame(t, b.f, "ab", "b")
	b.add("a")
	wantSame(t, b.f, "a", "ab", "b")
}

func TestV6GetAndLay(t *testing.T) {
	b := newPair(t)
	b.add("a", "b")
	for _, l := range someSets() {
		b.lay("a", l...)
		if s, e := b.f.Get("a"); s != of(t, l...) || e != api.OK {
			t.Errorf("Get(a): %v, %d; want %v", s.All(), e, l)
		}
		if s, e := b.f.Get("b"); s != (vset.Set{}) || e != api.OK {
			t.Errorf("Get(b): %v, %d", s.All(), e)
		}
	}
	for _, name := range []string{"", "c", "all", "A", "aa"} {
		b.refused(api.ErrSetNone, call{which: callLay, name: name, set: of(t, 1)})
		if s, e := b.f.Get(name); s != (vset.Set{}) || e != api.ErrSetNone {
			t.Errorf("Get(%q): %v, %d", name, s.All(), e)
		}
	}
}

func TestV6Purge(t *testing.T) {
	for n := range 64 {
		b := newPair(t)
		for i, name := range sixteen() {
			b.add(name)
			b.lay(name, slices.Compact(slices.Sorted(slices.Values([]int{0, i, n, 63})))...)
		}
		b.do(call{which: callPurge, n: n})
		for _, name := range sixteen() {
			if s, _ := b.f.Get(name); s.Has(n) || n != 0 && !s.Has(0) {
				t.Errorf("after Purge(%d): %v", n, s.All())
			}
		}
	}
	b := newPair(t)
	b.add("a", "b")
	b.lay("a", 0, 5, 63)
	for _, n := range noNumbers {
		b.refused(api.ErrArg, call{which: callPurge, n: n})
	}
}

func TestV7NamesRiseByTheirBytes(t *testing.T) {
	want := []string{"a", "a0", "a00", "a9", "a_", "a_b", "aa", "b", "b0", "z", "z_", "zz"}
	for _, names := range [][]string{want, {"zz", "b0", "a_", "a", "aa", "a9", "z", "b", "a00", "a_b", "z_", "a0"}} {
		b := newPair(t)
		b.add(names...)
		if got := b.f.Names(); !slices.Equal(got, want) {
			t.Errorf("Names: %q, want %q", got, want)
		}
		wantSame(t, b.f, strings.Join(want, " "))
	}
}

func TestV7Groups(t *testing.T) {
	b := newPair(t)
	b.add("e", "d", "c", "b", "a", "f")
	wantSame(t, b.f, "a b c d e f")
	b.lay("b", 63)
	b.lay("d", 63)
	b.lay("a", 0)
	b.lay("f", 0)
	wantSame(t, b.f, "a f", "b d", "c e")
	b.lay("a", 63)
	wantSame(t, b.f, "a b d", "c e", "f")
	b.do(call{which: callDrop, name: "a"})
	wantSame(t, b.f, "b d", "c e", "f")
	b.do(call{which: callPurge, n: 63})
	wantSame(t, b.f, "b c d e", "f")
	b.lay("b", 1, 2)
	b.lay("c", 1, 2, 3)
	b.lay("d", 2, 1)
	wantSame(t, b.f, "b d", "c", "e", "f")
}

// What came out is its owner's: no other answer is changed by what is done to it.
func TestV7ListsAreNewMemory(t *testing.T) {
	b := newPair(t)
	b.add("a", "b", "c", "d", "e")
	b.lay("b", 1)
	b.lay("d", 1)
	ahead := told(b.f)
	names, others := b.f.Names(), b.f.Names()
	groups, more := b.f.Same(), b.f.Same()
	for i := range names {
		names[i] = "x"
	}
	_ = append(names, "y")
	_ = append(names[:1], "z", "z")
	_ = append(groups[0], "y", "y", "y")
	if got := strings.Join(groups[1], " "); got != "b d" {
		t.Errorf("a group grew into the next one: %s", got)
	}
	for _, group := range groups {
		for i := range group {
			group[i] = "x"
		}
	}
	groups[0], groups[1] = nil, nil
	_ = append(groups[:1], nil, nil)
	if fmt.Sprint(others, more) != "[a b c d e] [[a c e] [b d]]" || told(b.f) != ahead {
		t.Errorf("%v, %v, %s", others, more, told(b.f))
	}
}

func TestV8FamiliesKnowNothingOfOneAnother(t *testing.T) {
	one, other := newPair(t), newPair(t)
	one.add("a", "b")
	other.add("a", "c")
	one.lay("a", 1, 2)
	wantSame(t, other.f, "a c")
	other.lay("a", 2, 3)
	one.do(call{which: callPurge, n: 2})
	other.do(call{which: callDrop, name: "c"})
	wantSame(t, one.f, "a", "b")
	if s, _ := one.f.Get("a"); s != of(t, 1) {
		t.Errorf("Get(a): %v", s.All())
	}
	if s, _ := other.f.Get("a"); s != of(t, 2, 3) {
		t.Errorf("Get(a): %v", s.All())
	}
}

// wantTheorem asks for what V8 says of a family's groups.
func wantTheorem(t *testing.T, f *vset.Family) {
	t.Helper()
	var firsts []vset.Set
	var all []string
	for _, group := range f.Same() {
		first, _ := f.Get(group[0])
		if slices.Contains(firsts, first) {
			t.Fatalf("V8: two groups have %v: %q", first.All(), f.Same())
		}
		firsts = append(firsts, first)
		for _, name := range group {
			if s, e := f.Get(name); s != first || e != api.OK {
				t.Fatalf("V8: %q is of the group of %q: %v, %d", name, group[0], s.All(), e)
			}
		}
		all = append(all, group...)
	}
	slices.Sort(all)
	if names := f.Names(); !slices.Equal(all, names) {
		t.Fatalf("V8: groups of %q, names %q", all, names)
	}
}

// fewCalls change a family of three names and two numbers in all ways.
func fewCalls(t *testing.T) []call {
	t.Helper()
	var calls []call
	for _, name := range []string{"b", "a", "a_"} {
		calls = append(calls, call{which: callAdd, name: name}, call{which: callDrop, name: name})
		for _, l := range [][]int{{0}, {0, 63}} {
			calls = append(calls, call{which: callLay, name: name, set: of(t, l...)})
		}
	}
	return append(calls, call{which: callPurge, n: 0}, call{which: callPurge, n: 63}, call{which: callPurge, n: 64}, call{which: callAdd, name: "in"})
}

func TestAllOrdersOfFourChanges(t *testing.T) {
	calls := fewCalls(t)
	many := len(calls)
	for k := range many * many * many * many {
		b := newPair(t)
		b.f.Add("b")
		b.p.Add("b")
		for rest, step := k, 0; step < 4; rest, step = rest/many, step+1 {
			c := calls[rest%many]
			if got, want := do(b.f, c), do(b.p, c); got != want {
				t.Fatalf("order %d, call %+v: %s, want %s", k, c, got, want)
			}
		}
		if k%5 == 0 {
			if got, want := told(b.f, "a", "b", "in"), told(b.p, "a", "b", "in"); got != want {
				t.Fatalf("order %d: %s, want %s", k, got, want)
			}
		}
	}
}

// numbers are drawn one behind the other, always the same ones.
func numbers() func(below int) int {
	x := uint64(88172645463325252)
	return func(below int) int {
		x ^= x << 13
		x ^= x >> 7
		x ^= x << 17
		return int(x % uint64(below))
	}
}

// someCall is one of all calls; its names are few, so that they are met again, and its sets too.
func someCall(t *testing.T, next func(int) int) call {
	t.Helper()
	names := append(sixteen(), "a", "b", "zz", "zz_9", "all", "", "A", "thirteen_long")
	c := call{which: next(callsInAll), name: names[next(len(names))], n: next(70) - 3}
	if next(3) == 0 {
		c.which = callAdd
	}
	for range next(3) {
		c.set, _ = c.set.With([]int{0, 1, 62, 63, next(64)}[next(5)])
	}
	return c
}

func TestLongRunsBesideAPlainFamily(t *testing.T) {
	next := numbers()
	most := 0
	for range 8 {
		b := newPair(t)
		for range 1500 {
			b.do(someCall(t, next))
			wantTheorem(t, b.f)
			most = max(most, len(b.f.Names()))
		}
	}
	if most != api.MaxSets {
		t.Errorf("no run came to more than %d sets", most)
	}
}
