package vset_test

import (
	"math"
	"slices"
	"testing"

	"isthmus/api"
	"isthmus/vset"
)

// noNumbers may be in no set.
var noNumbers = []int{-1, -2, -64, 64, 65, 127, 128, 1 << 32, 1<<32 + 5, -1 << 32, -1<<32 + 5, 1 << 62, math.MaxInt, math.MinInt, math.MinInt + 5}

func of(t *testing.T, l ...int) vset.Set {
	t.Helper()
	s, e := vset.Of(l...)
	if e != api.OK {
		t.Fatalf("Of%v: %d", l, e)
	}
	return s
}

// wantSet holds all that a set tells against the numbers that it should have, rising.
func wantSet(t *testing.T, s vset.Set, want ...int) {
	t.Helper()
	if all := s.All(); !slices.Equal(all, want) {
		t.Errorf("All: %v, want %v", all, want)
	}
	if many := s.Len(); many != len(want) {
		t.Errorf("Len of %v: %d", want, many)
	}
	for n := -3; n <= 67; n++ {
		if has := s.Has(n); has != slices.Contains(want, n) {
			t.Errorf("Has(%d) of %v: %t", n, want, has)
		}
		next := -1
		if i := slices.IndexFunc(want, func(k int) bool { return k >= n }); i >= 0 {
			next = want[i]
		}
		if got := s.Next(n); got != next {
			t.Errorf("Next(%d) of %v: %d, want %d", n, want, got, next)
		}
	}
}

// someSets are lists of numbers, rising: none, single ones, all, and such as have numbers at the edges of bytes and halves of a word.
func someSets() [][]int {
	lists := [][]int{nil, {0, 63}, {31, 32}, {0, 5, 63}, {7, 8, 15, 16, 23, 24, 39, 40, 47, 48, 55, 56}}
	var all, even, odd []int
	for n := range 64 {
		lists = append(lists, []int{n})
		all = append(all, n)
		if n%2 == 0 {
			even = append(even, n)
		} else {
			odd = append(odd, n)
		}
	}
	return append(lists, all, even, odd, all[:63], all[1:], all[:32], all[32:])
}

func TestExamplesOfSets(t *testing.T) {
	s := of(t, 5, 0, 63, 5)
	wantSet(t, s, 0, 5, 63)
	for _, c := range [][2]int{{1, 5}, {-9, 0}, {64, -1}} {
		if n := s.Next(c[0]); n != c[1] {
			t.Errorf("Next(%d): %d, want %d", c[0], n, c[1])
		}
	}
	for _, l := range [][]int{{64}, {3, -1}} {
		if x, e := vset.Of(l...); x != (vset.Set{}) || e != api.ErrArg {
			t.Errorf("Of%v: %v, %d", l, x, e)
		}
	}
	w, e := s.With(7)
	if e != api.OK {
		t.Errorf("With(7): %d", e)
	}
	wantSet(t, w, 0, 5, 7, 63)
	if x, e := s.Without(5); x != of(t, 63, 0) || e != api.OK {
		t.Errorf("Without(5): %v, %d", x.All(), e)
	}
}

func TestV1TheZeroSetIsTheEmptyOne(t *testing.T) {
	var zero vset.Set
	wantSet(t, zero)
	for _, l := range [][]int{nil, {}} {
		if s := of(t, l...); s != zero {
			t.Errorf("Of none: %v", s.All())
		}
	}
}

func TestV1OfHasTheNumbers(t *testing.T) {
	for _, l := range someSets() {
		wantSet(t, of(t, l...), l...)
	}
}

// Neither order nor how often a number is told is to be seen.
func TestV1NoOrderIsTold(t *testing.T) {
	for _, l := range someSets() {
		s := of(t, l...)
		back := slices.Clone(l)
		slices.Reverse(back)
		for _, other := range [][]int{back, append(slices.Clone(l), l...), append(slices.Clone(l), back...), slices.Repeat(back, 20)} {
			if x := of(t, other...); x != s {
				t.Errorf("Of%v: %v, want %v", other, x.All(), l)
			}
		}
	}
}

// A wrong number at each place of the list.
func TestV1WrongNumbers(t *testing.T) {
	for _, n := range noNumbers {
		for i := range 4 {
			l := slices.Insert([]int{5, 0, 63}, i, n)
			if s, e := vset.Of(l...); s != (vset.Set{}) || e != api.ErrArg {
				t.Errorf("Of%v: %v, %d", l, s.All(), e)
			}
		}
		if s, e := vset.Of(n); s != (vset.Set{}) || e != api.ErrArg {
			t.Errorf("Of(%d): %v, %d", n, s.All(), e)
		}
	}
}

// The list is its owner's: it is not written into, nor is what stands behind its length, and what is done to it later is not told.
func TestV1TheListIsNotKept(t *testing.T) {
	room := []int{9, 3, 9, 0, 60, 61}
	s := of(t, room[:4]...)
	if !slices.Equal(room, []int{9, 3, 9, 0, 60, 61}) {
		t.Errorf("the list was written into: %v", room)
	}
	for i := range room {
		room[i] = 40 + i
	}
	wantSet(t, s, 0, 3, 9)
}

func TestV2WithAndWithout(t *testing.T) {
	for _, l := range someSets() {
		s := of(t, l...)
		for n := range 64 {
			rest := slices.DeleteFunc(slices.Clone(l), func(k int) bool { return k == n })
			more := append(slices.Clone(rest), n)
			if x, e := s.With(n); x != of(t, more...) || e != api.OK {
				t.Errorf("With(%d) of %v: %v, %d", n, l, x.All(), e)
			}
			if x, e := s.Without(n); x != of(t, rest...) || e != api.OK {
				t.Errorf("Without(%d) of %v: %v, %d", n, l, x.All(), e)
			}
		}
		wantSet(t, s, l...)
	}
}

func TestV2WrongNumbers(t *testing.T) {
	for _, l := range someSets() {
		s := of(t, l...)
		for _, n := range noNumbers {
			if x, e := s.With(n); x != (vset.Set{}) || e != api.ErrArg {
				t.Errorf("With(%d) of %v: %v, %d", n, l, x.All(), e)
			}
			if x, e := s.Without(n); x != (vset.Set{}) || e != api.ErrArg {
				t.Errorf("Without(%d) of %v: %v, %d", n, l, x.All(), e)
			}
		}
		wantSet(t, s, l...)
	}
}

// Has and Next may be asked of any number.
func TestV3AnyNumber(t *testing.T) {
	for _, l := range someSets() {
		s := of(t, l...)
		for _, n := range noNumbers {
			if s.Has(n) {
				t.Errorf("Has(%d) of %v", n, l)
			}
			want := -1
			if n < 0 && len(l) > 0 {
				want = l[0]
			}
			if next := s.Next(n); next != want {
				t.Errorf("Next(%d) of %v: %d, want %d", n, l, next, want)
			}
		}
	}
}

// What All gave is its owner's: no other answer is changed by what is done to it.
func TestV3AllIsNewMemory(t *testing.T) {
	s := of(t, 1, 2, 40)
	one, other := s.All(), s.All()
	one[0], one[1], one[2] = -1, -2, -3
	_ = append(one, -4)
	_ = append(one[:1], -5, -6, -7)
	if !slices.Equal(other, []int{1, 2, 40}) {
		t.Errorf("All: %v", other)
	}
	wantSet(t, s, 1, 2, 40)
}

func TestV4EachNumberByItself(t *testing.T) {
	for _, l := range someSets() {
		for _, m := range someSets() {
			s, u := of(t, l...), of(t, m...)
			union, meet, minus := s.Union(u), s.Meet(u), s.Minus(u)
			for n := range 64 {
				in, out := s.Has(n), u.Has(n)
				if union.Has(n) != (in || out) || meet.Has(n) != (in && out) || minus.Has(n) != (in && !out) {
					t.Fatalf("%d of %v and %v: %t, %t, %t", n, l, m, union.Has(n), meet.Has(n), minus.Has(n))
				}
			}
			if s != of(t, l...) || u != of(t, m...) {
				t.Fatalf("%v, %v became %v, %v", l, m, s.All(), u.All())
			}
		}
	}
}

// smallSets are all sets of five numbers, in the order of their choices.
func smallSets(t *testing.T) []vset.Set {
	t.Helper()
	var sets []vset.Set
	for choice := range 32 {
		var l []int
		for i, n := range []int{0, 1, 31, 32, 63} {
			if choice>>i&1 == 1 {
				l = append(l, n)
			}
		}
		sets = append(sets, of(t, l...))
	}
	return sets
}

func TestV8LawsOfSets(t *testing.T) {
	all := smallSets(t)
	for _, a := range all {
		for _, b := range all {
			for _, c := range all {
				laws := []bool{
					a.Union(b) == b.Union(a),
					a.Meet(b) == b.Meet(a),
					a.Union(b.Union(c)) == a.Union(b).Union(c),
					a.Meet(b.Meet(c)) == a.Meet(b).Meet(c),
					a.Meet(b.Union(c)) == a.Meet(b).Union(a.Meet(c)),
					a.Union(b.Meet(c)) == a.Union(b).Meet(a.Union(c)),
					a.Minus(b.Union(c)) == a.Minus(b).Meet(a.Minus(c)),
					a.Minus(b.Meet(c)) == a.Minus(b).Union(a.Minus(c)),
					a.Minus(b).Union(a.Meet(b)) == a,
					a.Union(a) == a && a.Meet(a) == a && a.Minus(a) == vset.Set{},
					a.Union(a.Meet(b)) == a && a.Meet(a.Union(b)) == a,
					a.Union(b).Len()+a.Meet(b).Len() == a.Len()+b.Len(),
				}
				if i := slices.Index(laws, false); i >= 0 {
					t.Fatalf("law %d of %v, %v, %v", i, a.All(), b.All(), c.All())
				}
			}
		}
	}
}

// waysTo are sets of the same numbers, each made in another way.
func waysTo(t *testing.T, l []int) []vset.Set {
	t.Helper()
	var up, down, joined vset.Set
	for i := range l {
		up, _ = up.With(l[i])
		down, _ = down.With(l[len(l)-1-i])
		joined = joined.Union(of(t, l[i]))
	}
	var all vset.Set
	for n := range 64 {
		all, _ = all.With(n)
	}
	rest, fewer := all, all
	for _, n := range l {
		rest, _ = rest.Without(n)
	}
	for n := range 64 {
		if !slices.Contains(l, n) {
			fewer, _ = fewer.Without(n)
		}
	}
	return []vset.Set{up, down, joined, fewer, all.Minus(rest), all.Meet(up), of(t, up.All()...)}
}

// A set is what its numbers are: by ==, and as a map's key.
func TestV8HoweverItWasMade(t *testing.T) {
	places := map[vset.Set]int{}
	for i, l := range someSets() {
		s := of(t, l...)
		if was, is := places[s]; is && !slices.Equal(someSets()[was], l) {
			t.Errorf("%v and %v are one key", someSets()[was], l)
		}
		places[s] = i
		for way, x := range waysTo(t, l) {
			if place, is := places[x]; x != s || !is || place != i {
				t.Errorf("way %d to %v: %v", way, l, x.All())
			}
			wantSet(t, x, l...)
		}
	}
}

// Sets of unlike numbers are unlike.
func TestV8UnlikeSets(t *testing.T) {
	for i, a := range smallSets(t) {
		for k, b := range smallSets(t) {
			if (a == b) != (i == k) || slices.Equal(a.All(), b.All()) != (i == k) {
				t.Errorf("%v and %v", a.All(), b.All())
			}
		}
	}
}
