package reckon_test

import (
	"math"
	"math/big"
	"testing"

	"isthmus/api"
	"isthmus/reckon"
)

func edges() []int {
	var l []int
	for _, n := range []int{0, 1 << 31, 1 << 32, 3037000499, 1 << 62, math.MaxInt / 3, math.MaxInt, math.MinInt, -1 << 31, -1 << 32, -3037000499, -1 << 62, math.MinInt / 3} {
		for d := -3; d <= 3; d++ {
			l = append(l, n+d)
		}
	}
	return l
}

func TestNumbers(t *testing.T) {
	type way struct {
		kind, fault int
		plain       func(x, a, b *big.Int) *big.Int
		own         func(a, b int) (int, int)
	}
	for _, w := range []way{
		{api.EAdd, 0, (*big.Int).Add, reckon.Plus},
		{api.ESub, 0, (*big.Int).Sub, reckon.Minus},
		{api.EMul, 0, (*big.Int).Mul, reckon.Times},
		{api.EDiv, api.FaultZero, (*big.Int).Quo, reckon.Quotient},
		{api.ERem, api.FaultZero, (*big.Int).Rem, reckon.Rest},
	} {
		for _, a := range edges() {
			for _, b := range edges() {
				want, fault := 0, w.fault
				if b != 0 || fault == 0 {
					x := w.plain(new(big.Int), big.NewInt(int64(a)), big.NewInt(int64(b)))
					want, fault = int(x.Int64()), 0
					if !x.IsInt64() {
						want, fault = 0, api.FaultOverflow
					}
				}
				if n, f := w.own(a, b); n != want || f != fault {
					t.Fatalf("%d of %d and %d: %d, %d, not %d, %d", w.kind, a, b, n, f, want, fault)
				}
				if n, f := reckon.Worth(w.kind, a, b); n != want || f != fault {
					t.Fatalf("%d of %d and %d: %d, %d, not %d, %d", w.kind, a, b, n, f, want, fault)
				}
			}
		}
	}
}

func TestTruths(t *testing.T) {
	for _, a := range edges() {
		for _, b := range edges() {
			for kind, is := range map[int]bool{api.EEq: a == b, api.ENe: a != b, api.ELess: a < b, api.EAtMost: a <= b, api.ENot: a == 0} {
				want := 0
				if is {
					want = 1
				}
				if n, f := reckon.Worth(kind, a, b); n != want || f != reckon.NoFault || reckon.Truth(is) != want {
					t.Fatalf("%d of %d and %d: %d, %d", kind, a, b, n, f)
				}
			}
		}
	}
}

func TestNegation(t *testing.T) {
	for _, a := range edges() {
		want, fault := -a, reckon.NoFault
		if a == math.MinInt {
			want, fault = 0, api.FaultOverflow
		}
		if n, f := reckon.Worth(api.ENeg, a, 7); n != want || f != fault {
			t.Fatalf("of %d: %d, %d", a, n, f)
		}
	}
}
