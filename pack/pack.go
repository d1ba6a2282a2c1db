// Package pack is layer 1: see shared/doc/01-pack.md.
package pack

import "isthmus/api"

// Digits of sevens: the bits of one, what tells that another one follows, and the last digit that 64 bits leave room for.
const (
	sevenBits = 7
	sevenMore = 1 << sevenBits
	sevenMask = sevenMore - 1
	lastIndex = 9
	lastMost  = 1
)

// mixFactor is odd, so that multiplying by it can be undone: no two sums fall together.
const mixFactor uint64 = 11400714819323198485

// The fields of a word, as places in the table fields.
const (
	fieldOp = iota
	fieldA
	fieldB
)

// field is where a field of a word stands: the bits below it, and the greatest number that it has room for.
type field struct {
	shift uint
	most  uint64
}

var fields = [3]field{
	fieldOp: {shift: 56, most: 1<<8 - 1},
	fieldA:  {shift: 28, most: 1<<28 - 1},
	fieldB:  {shift: 0, most: 1<<28 - 1},
}

// Zig lays a number's sign into its lowest bit.
func Zig(n int64) uint64 { return uint64(n)<<1 ^ uint64(n>>63) }

// Zag takes it out again.
func Zag(u uint64) int64 { return int64(u>>1) ^ -int64(u&1) }

// Put is a number in sevens of bits.
func Put(u uint64) string {
	var digits []byte
	for u >= sevenMore {
		digits = append(digits, byte(u)|sevenMore)
		u >>= sevenBits
	}
	return string(append(digits, byte(u)))
}

// Take reads one: the number, how many bytes it took.
func Take(s string) (uint64, int, api.Errno) {
	var u uint64
	for i := 0; i < len(s); i++ {
		digit := s[i]
		if i == lastIndex && digit > lastMost {
			return 0, 0, api.ErrPackForm
		}
		u |= uint64(digit&sevenMask) << (sevenBits * uint(i))
		if digit >= sevenMore {
			continue
		}
		if digit == 0 && i > 0 {
			return 0, 0, api.ErrPackForm
		}
		return u, i + 1, api.OK
	}
	return 0, 0, api.ErrPackShort
}

// Word is an operation and two numbers in one word.
func Word(op, a, b int) (uint64, api.Errno) {
	if !fits(fieldOp, op) || !fits(fieldA, a) || !fits(fieldB, b) {
		return 0, api.ErrPackField
	}
	return lay(fieldOp, op) | lay(fieldA, a) | lay(fieldB, b), api.OK
}

// Parts are they again.
func Parts(w uint64) (int, int, int) {
	return part(fieldOp, w), part(fieldA, w), part(fieldB, w)
}

// fits needs no look at the sign: converted, a number below 0 is greater than any field's most.
func fits(which, n int) bool { return uint64(n) <= fields[which].most }

func lay(which, n int) uint64 { return uint64(n) << fields[which].shift }

func part(which int, w uint64) int { return int(w >> fields[which].shift & fields[which].most) }

// Mix stirs a number into a sum of 64 bits.
func Mix(h uint64, n int64) uint64 {
	x := (h ^ Zig(n)) * mixFactor
	return x ^ x>>32
}
