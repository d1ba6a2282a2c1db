package pack_test

import (
	"math"
	"math/big"
	"strings"
	"testing"

	"isthmus/api"
	"isthmus/pack"
)

const (
	mostField  = 1<<28 - 1
	mixFactor  = 11400714819323198485
	manySteps  = 2000
	nineOfMore = "\x80\x80\x80\x80\x80\x80\x80\x80\x80"
)

var nineFull = strings.Repeat("\xff", 9)

// numbers are those of 64 bits at which something may go wrong (beside each power of 2), and some spread among them.
func numbers() []uint64 {
	l := []uint64{0, math.MaxUint64}
	for k := range 64 {
		l = append(l, 1<<k-1, 1<<k, 1<<k+1, -(1 << k), -(1<<k)-1)
	}
	x := uint64(88172645463325252)
	for range manySteps {
		x ^= x << 13
		x ^= x >> 7
		x ^= x << 17
		l = append(l, x, x>>(x%64))
	}
	return l
}

func unsigned(u uint64) *big.Int { return new(big.Int).SetUint64(u) }

// plainZig is the zigzag in numbers without a bound, by its words in the document.
func plainZig(n int64) uint64 {
	z := new(big.Int).Mul(big.NewInt(2), big.NewInt(n))
	if n < 0 {
		z.Neg(z)
		z.Sub(z, big.NewInt(1))
	}
	return z.Uint64()
}

// plainSevens are the digits to the base 128 in numbers without a bound.
func plainSevens(u uint64) string {
	rest, base, digit := unsigned(u), big.NewInt(128), new(big.Int)
	var b []byte
	for {
		rest.DivMod(rest, base, digit)
		if rest.Sign() == 0 {
			return string(append(b, byte(digit.Int64())))
		}
		b = append(b, byte(digit.Int64()+128))
	}
}

// plainTake goes by the steps of K2, one behind the other.
func plainTake(s string) (uint64, int, api.Errno) {
	sum, worth := new(big.Int), big.NewInt(1)
	for k := 1; ; k++ {
		if k > len(s) {
			return 0, 0, api.ErrPackShort
		}
		d := int64(s[k-1])
		if k == 10 && d > 1 {
			return 0, 0, api.ErrPackForm
		}
		sum.Add(sum, new(big.Int).Mul(worth, big.NewInt(d%128)))
		worth.Mul(worth, big.NewInt(128))
		if d >= 128 {
			continue
		}
		if d == 0 && k > 1 {
			return 0, 0, api.ErrPackForm
		}
		return sum.Uint64(), k, api.OK
	}
}

func checkTake(t *testing.T, s string) {
	t.Helper()
	u, k, e := pack.Take(s)
	wantU, wantK, wantE := plainTake(s)
	if u != wantU || k != wantK || e != wantE {
		t.Errorf("Take(%q): %d, %d, %d; want %d, %d, %d", s, u, k, e, wantU, wantK, wantE)
	}
}

func TestK1Examples(t *testing.T) {
	for _, c := range []struct {
		n int64
		u uint64
	}{
		{0, 0}, {-1, 1}, {1, 2}, {-2, 3}, {-3, 5}, {3, 6},
		{math.MaxInt64, math.MaxUint64 - 1}, {math.MinInt64, math.MaxUint64},
	} {
		if u := pack.Zig(c.n); u != c.u {
			t.Errorf("Zig(%d): %d, want %d", c.n, u, c.u)
		}
		if n := pack.Zag(c.u); n != c.n {
			t.Errorf("Zag(%d): %d, want %d", c.u, n, c.n)
		}
	}
}

func TestK1AsReckoned(t *testing.T) {
	for _, x := range numbers() {
		n := int64(x)
		u := plainZig(n)
		if got := pack.Zig(n); got != u {
			t.Errorf("Zig(%d): %d, want %d", n, got, u)
		}
		if got := pack.Zag(u); got != n {
			t.Errorf("Zag(%d): %d, want %d", u, got, n)
		}
	}
}

func TestK2PutExamples(t *testing.T) {
	for _, c := range []struct {
		u uint64
		s string
	}{
		{0, "\x00"}, {1, "\x01"}, {127, "\x7f"}, {128, "\x80\x01"}, {300, "\xac\x02"},
		{1<<14 - 1, "\xff\x7f"}, {1 << 14, "\x80\x80\x01"},
		{1<<63 - 1, "\xff\xff\xff\xff\xff\xff\xff\xff\x7f"},
		{1 << 63, nineOfMore + "\x01"}, {math.MaxUint64, nineFull + "\x01"},
	} {
		if s := pack.Put(c.u); s != c.s {
			t.Errorf("Put(%d): %q, want %q", c.u, s, c.s)
		}
	}
}

func TestK2PutAsReckoned(t *testing.T) {
	for _, u := range numbers() {
		if s, want := pack.Put(u), plainSevens(u); s != want {
			t.Errorf("Put(%d): %q, want %q", u, s, want)
		}
	}
}

func TestK2TakeExamples(t *testing.T) {
	for _, c := range []struct {
		s string
		u uint64
		k int
		e api.Errno
	}{
		{"\x00", 0, 1, api.OK},
		{"\x00\x00", 0, 1, api.OK},
		{"\x7f\xff", 127, 1, api.OK},
		{"\xac\x02\x07", 300, 2, api.OK},
		{nineFull + "\x01", math.MaxUint64, 10, api.OK},
		{nineFull + "\x01\xff", math.MaxUint64, 10, api.OK},
		{nineOfMore + "\x01", 1 << 63, 10, api.OK},
		{"", 0, 0, api.ErrPackShort},
		{"\x80", 0, 0, api.ErrPackShort},
		{"\xff\xff", 0, 0, api.ErrPackShort},
		{nineOfMore, 0, 0, api.ErrPackShort},
		{nineFull, 0, 0, api.ErrPackShort},
		{"\x80\x00", 0, 0, api.ErrPackForm},
		{"\xff\x00", 0, 0, api.ErrPackForm},
		{"\xff\x80\x00\x01", 0, 0, api.ErrPackForm},
		{nineFull + "\x00", 0, 0, api.ErrPackForm},
		{nineFull + "\x02", 0, 0, api.ErrPackForm},
		{nineFull + "\x80", 0, 0, api.ErrPackForm},
		{nineFull + "\x81\x01", 0, 0, api.ErrPackForm},
		{strings.Repeat("\x80", 1000), 0, 0, api.ErrPackForm},
	} {
		if u, k, e := pack.Take(c.s); u != c.u || k != c.k || e != c.e {
			t.Errorf("Take(%q): %d, %d, %d; want %d, %d, %d", c.s, u, k, e, c.u, c.k, c.e)
		}
	}
}

func TestK2TakeAllOfTwoBytes(t *testing.T) {
	checkTake(t, "")
	for a := range 256 {
		checkTake(t, string([]byte{byte(a)}))
		for b := range 256 {
			checkTake(t, string([]byte{byte(a), byte(b)}))
		}
	}
}

func TestK2TakeEndsOfEachLength(t *testing.T) {
	for _, more := range []string{"\x80", "\xff", "\xac"} {
		for length := range 13 {
			ahead := strings.Repeat(more, length)
			checkTake(t, ahead)
			for last := range 256 {
				checkTake(t, ahead+string([]byte{byte(last)}))
			}
		}
	}
}

func TestK3Words(t *testing.T) {
	for _, c := range []struct {
		op, a, b int
		w        uint64
	}{
		{0, 0, 0, 0}, {3, 1, 2, 216172782382219266},
		{1, 0, 0, 1 << 56}, {0, 1, 0, 1 << 28}, {0, 0, 1, 1},
		{255, 0, 0, 255 << 56}, {0, mostField, 0, mostField << 28}, {0, 0, mostField, mostField},
		{255, mostField, mostField, math.MaxUint64},
	} {
		if w, e := pack.Word(c.op, c.a, c.b); w != c.w || e != api.OK {
			t.Errorf("Word(%d, %d, %d): %d, %d; want %d", c.op, c.a, c.b, w, e, c.w)
		}
		if op, a, b := pack.Parts(c.w); op != c.op || a != c.a || b != c.b {
			t.Errorf("Parts(%d): %d, %d, %d; want %d, %d, %d", c.w, op, a, b, c.op, c.a, c.b)
		}
	}
}

func TestK3NoRoom(t *testing.T) {
	wrong := []int{-1, mostField + 1, 1 << 32, 1 << 56, math.MaxInt, math.MinInt}
	for _, n := range wrong {
		for _, c := range [][3]int{{n, 0, 0}, {0, n, 0}, {0, 0, n}, {n, n, n}} {
			if w, e := pack.Word(c[0], c[1], c[2]); w != 0 || e != api.ErrPackField {
				t.Errorf("Word%v: %d, %d; want 0, %d", c, w, e, api.ErrPackField)
			}
		}
	}
	for _, c := range [][3]int{{256, 0, 0}, {256, 1, 2}, {3, 1, mostField + 1}, {3, -1, 2}, {mostField, 1, 2}} {
		if w, e := pack.Word(c[0], c[1], c[2]); w != 0 || e != api.ErrPackField {
			t.Errorf("Word%v: %d, %d; want 0, %d", c, w, e, api.ErrPackField)
		}
	}
}

func TestK3PartsAsReckoned(t *testing.T) {
	below := big.NewInt(1 << 28)
	for _, w := range numbers() {
		rest, wantA, wantB := unsigned(w), new(big.Int), new(big.Int)
		rest.DivMod(rest, below, wantB)
		rest.DivMod(rest, below, wantA)
		op, a, b := pack.Parts(w)
		if int64(op) != rest.Int64() || int64(a) != wantA.Int64() || int64(b) != wantB.Int64() {
			t.Errorf("Parts(%d): %d, %d, %d; want %d, %d, %d", w, op, a, b, rest, wantA, wantB)
		}
	}
}

func TestK4Examples(t *testing.T) {
	for _, c := range []struct {
		h    uint64
		n    int64
		want uint64
	}{
		{0, 0, 0}, {0, -1, 11400714820970677676}, {1, 0, 11400714820970677676},
		{1, -1, 0}, {math.MaxUint64, math.MinInt64, 0}, {math.MaxUint64 - 1, math.MaxInt64, 0},
	} {
		if got := pack.Mix(c.h, c.n); got != c.want {
			t.Errorf("Mix(%d, %d): %d, want %d", c.h, c.n, got, c.want)
		}
	}
}

func TestK4AsReckoned(t *testing.T) {
	l := numbers()
	wrap := new(big.Int).Lsh(big.NewInt(1), 64)
	for i, h := range l {
		n := int64(l[len(l)-1-i])
		x := new(big.Int).Xor(unsigned(h), unsigned(plainZig(n)))
		x.Mul(x, unsigned(mixFactor))
		x.Mod(x, wrap)
		x.Xor(x, new(big.Int).Rsh(x, 32))
		if got := pack.Mix(h, n); got != x.Uint64() {
			t.Errorf("Mix(%d, %d): %d, want %d", h, n, got, x)
		}
	}
}

func TestK5ZigAndZag(t *testing.T) {
	for _, x := range numbers() {
		if n := pack.Zag(pack.Zig(int64(x))); n != int64(x) {
			t.Errorf("Zag of Zig(%d): %d", int64(x), n)
		}
		if u := pack.Zig(pack.Zag(x)); u != x {
			t.Errorf("Zig of Zag(%d): %d", x, u)
		}
	}
}

func TestK5TakeOfPut(t *testing.T) {
	for _, x := range numbers() {
		s := pack.Put(x)
		for _, behind := range []string{"", "\x00", "\x01", "\x80", nineFull + nineFull} {
			if u, k, e := pack.Take(s + behind); u != x || k != len(s) || e != api.OK {
				t.Errorf("Take of Put(%d) and %q: %d, %d, %d", x, behind, u, k, e)
			}
		}
	}
}

func TestK5PutOfTake(t *testing.T) {
	lengths := map[int]int{}
	for _, x := range numbers() {
		tail := make([]byte, 8)
		for i := range tail {
			tail[i] = byte(x >> (8 * i))
		}
		for ahead := range 10 {
			s := strings.Repeat("\xff", ahead) + string(tail)
			u, k, e := pack.Take(s)
			if e != api.OK {
				continue
			}
			lengths[k]++
			if pack.Put(u) != s[:k] {
				t.Errorf("Take(%q): %d, %d; Put of it %q", s, u, k, pack.Put(u))
			}
		}
	}
	if len(lengths) != 10 {
		t.Errorf("numbers were taken of these lengths only: %v", lengths)
	}
}

func TestK5WordsAndParts(t *testing.T) {
	for _, x := range numbers() {
		op, a, b := pack.Parts(x)
		if w, e := pack.Word(op, a, b); w != x || e != api.OK {
			t.Errorf("Word of Parts(%d): %d, %d", x, w, e)
		}
	}
	for _, op := range []int{0, 1, 127, 128, 255} {
		for _, a := range []int{0, 1, 1 << 27, mostField} {
			for _, b := range []int{0, 1, 1 << 27, mostField} {
				w, e := pack.Word(op, a, b)
				gotOp, gotA, gotB := pack.Parts(w)
				if e != api.OK || gotOp != op || gotA != a || gotB != b {
					t.Errorf("Parts of Word(%d, %d, %d): %d, %d, %d, %d", op, a, b, gotOp, gotA, gotB, e)
				}
			}
		}
	}
}

// unmix undoes what K4 does behind the first exclusive or: where it can be undone, no two fall together.
func unmix(m uint64) uint64 {
	wrap := new(big.Int).Lsh(big.NewInt(1), 64)
	inverse := new(big.Int).ModInverse(unsigned(mixFactor), wrap).Uint64()
	return (m ^ m>>32) * inverse
}

func TestK5MixKeepsApart(t *testing.T) {
	l := numbers()
	for i, h := range l {
		n := int64(l[len(l)-1-i])
		m := unmix(pack.Mix(h, n))
		if got := m ^ pack.Zig(n); got != h {
			t.Errorf("Mix(%d, %d) does not tell h: %d", h, n, got)
		}
		if got := pack.Zag(m ^ h); got != n {
			t.Errorf("Mix(%d, %d) does not tell n: %d", h, n, got)
		}
	}
}

func TestK5MixOfOnePart(t *testing.T) {
	ofH, ofN := map[uint64]uint64{}, map[uint64]uint64{}
	for _, x := range numbers() {
		byH, byN := pack.Mix(x, -7), pack.Mix(7, int64(x))
		if other, ok := ofH[byH]; ok && other != x {
			t.Errorf("Mix(%d, -7) and Mix(%d, -7) are one", x, other)
		}
		if other, ok := ofN[byN]; ok && other != x {
			t.Errorf("Mix(7, %d) and Mix(7, %d) are one", int64(x), int64(other))
		}
		ofH[byH], ofN[byN] = x, x
	}
}
