package guard_test

import (
	"math"
	"math/big"
	"testing"

	"isthmus/guard"
)

// plainBound is V2, as it is written, in numbers without an end.
func plainBound(words, rounds, vertices int) int {
	count := func(n int) *big.Int {
		return big.NewInt(int64(min(max(n, 0), 2147483648)))
	}
	power := count(rounds)
	if power.Cmp(big.NewInt(4)) > 0 {
		power = big.NewInt(4)
	}
	base := new(big.Int).Add(big.NewInt(1), count(vertices))
	bound := new(big.Int).Mul(count(words), new(big.Int).Exp(base, power, nil))
	if most := new(big.Int).Exp(big.NewInt(2), big.NewInt(62), nil); bound.Cmp(most) > 0 {
		bound = most
	}
	return int(bound.Int64())
}

func TestV2Examples(t *testing.T) {
	for x, want := range map[[3]int]int{
		{10, 2, 4}: 250, {1, 9, 1 << 40}: 1 << 62, {11, 1, 5}: 66, {2, 0, 64}: 2, {32768, 4, 64}: 584929280000, {1, 4, 64}: 17850625,
		{1 << 31, 1, 1<<31 - 1}: 1 << 62, {1<<31 - 1, 1, 1<<31 - 1}: 1<<62 - 1<<31, {1 << 31, 1, 1<<31 - 2}: 1<<62 - 1<<31, {1 << 31, 1, 1 << 31}: 1 << 62, {1 << 30, 1, 1 << 31}: 1<<61 + 1<<30, {3, 4, 1}: 48, {3, 5, 1}: 48, {3, 3, 1}: 24,
		{math.MaxInt, 0, 0}: 1 << 31, {math.MaxInt, 4, 0}: 1 << 31, {math.MinInt, 4, 9}: 0, {0, 4, math.MaxInt}: 0, {7, math.MinInt, 9}: 7, {7, math.MaxInt, 1}: 112, {7, 4, math.MinInt}: 7, {7, 4, -1}: 7, {-1, -1, -1}: 0,
		{math.MaxInt, math.MaxInt, math.MaxInt}: 1 << 62, {math.MinInt, math.MinInt, math.MinInt}: 0,
	} {
		if n := guard.Bound(x[0], x[1], x[2]); n != want {
			t.Errorf("%v: %d; wanted %d", x, n, want)
		}
	}
}

// The edges of all three, and what is one beside them.
func TestV2Edges(t *testing.T) {
	var edges []int
	for n := range 20 {
		edges = append(edges, n, -n)
	}
	for shift := range 63 {
		edges = append(edges, 1<<shift-1, 1<<shift, 1<<shift+1, -1<<shift)
	}
	edges = append(edges, math.MaxInt-1, math.MaxInt, math.MinInt, math.MinInt+1, 64, 65, 100, 1000000, 46340, 46341, 2097151, 2097152, 1290, 1291, 35791394)
	for _, words := range edges {
		for _, vertices := range edges {
			for _, rounds := range []int{math.MinInt, -1, 0, 1, 2, 3, 4, 5, 6, 1<<31 - 1, 1 << 31, 1<<31 + 1, 1 << 32, math.MaxInt} {
				if n, want := guard.Bound(words, rounds, vertices), plainBound(words, rounds, vertices); n != want {
					t.Fatalf("Bound(%d, %d, %d): %d; wanted %d", words, rounds, vertices, n, want)
				}
			}
		}
	}
}

// All small ones, and drawn ones around where 2^62 begins.
func TestV2Drawn(t *testing.T) {
	for words := -2; words < 40; words++ {
		for rounds := -2; rounds < 8; rounds++ {
			for vertices := -2; vertices < 70; vertices++ {
				if n, want := guard.Bound(words, rounds, vertices), plainBound(words, rounds, vertices); n != want {
					t.Fatalf("Bound(%d, %d, %d): %d; wanted %d", words, rounds, vertices, n, want)
				}
			}
		}
	}
	d := draw(123456789123456789)
	below := map[bool]int{}
	for range 200000 {
		rounds := 1 + d.below(4)
		vertices := d.below(1 << (1 + d.below(31)))
		room := float64(int(1) << 62)
		for range rounds {
			room /= float64(1 + vertices)
		}
		words := min(int(room), 1<<32) + d.below(5) - 2
		n := guard.Bound(words, rounds, vertices)
		if want := plainBound(words, rounds, vertices); n != want {
			t.Fatalf("Bound(%d, %d, %d): %d; wanted %d", words, rounds, vertices, n, want)
		}
		below[n < 1<<62]++
	}
	if below[true] < 20000 || below[false] < 20000 {
		t.Errorf("%v", below)
	}
}
