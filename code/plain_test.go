package code_test

import (
	"encoding/binary"
	"regexp"
	"slices"
	"strings"
	"testing"

	"isthmus/api"
	"isthmus/code"
)

// theWords are those of the language, as chapter 11 lists them.
const theWords = "all and around block bottleneck connected count degree else false if in least max min most not or rep size some sum then total true value vertices"

var nameForm = regexp.MustCompile(`\A[a-z][a-z0-9_]{0,11}\z`)

// word lays its fields as chapter 1 says; those of a test have room.
func word(op, a, b int) uint64 { return uint64(op)<<56 + uint64(a)<<28 + uint64(b) }

func plainName(s string) bool {
	return nameForm.MatchString(s) && !slices.Contains(strings.Fields(theWords), s)
}

// plainWord is a row of the chapter's table, with its numbers written out.
func plainWord(w uint64, c api.Code) bool {
	op, a, b := int(w>>56), int(w>>28&(1<<28-1)), int(w&(1<<28-1))
	consts, names, cells := len(c.Consts), len(c.Names), len(c.Cells)
	switch op {
	case 1:
		return a < consts && (b == 1 || b == 2 && (c.Consts[a] == 0 || c.Consts[a] == 1))
	case 2:
		return a < consts && b == 0 && c.Consts[a] >= 0
	case 3:
		return a < 4 && b == 0
	case 11:
		return a == 0 && (b == 1 || b == 2 || b == 3)
	case 12:
		return a == 0 && (b == 0 || b == 1)
	case 13, 14, 15, 24:
		return b == 0
	case 16:
		return a != 0 && a < 11 && b == 0
	case 17:
		return a < cells
	case 18, 19:
		return a < cells && b == 0
	case 21:
		return a < names && b == 0
	case 23:
		return a < 1025 && b == 0
	case 26:
		return (a == 0 || a == 1) && b == 0
	case 0, 4, 5, 6, 7, 8, 9, 10, 20, 22, 25, 27:
		return a == 0 && b == 0
	}
	return false
}

func plainRight(c api.Code) bool {
	few := len(c.Words) >= 1 && len(c.Words) <= 32768 && len(c.Consts) <= 32768 && len(c.Names) <= 2000 && len(c.Cells) <= 256
	return few &&
		!slices.ContainsFunc(c.Words, func(w uint64) bool { return !plainWord(w, c) }) &&
		!slices.ContainsFunc(c.Names, func(s string) bool { return !plainName(s) }) &&
		!slices.ContainsFunc(c.Cells, func(k int) bool { return k != 1 && k != 2 && k != 3 })
}

// plainBody is the bytes ahead of the sum, of right code and of any other.
func plainBody(c api.Code) string {
	b := binary.AppendUvarint([]byte("IC1"), uint64(len(c.Words)))
	for _, w := range c.Words {
		b = binary.AppendUvarint(b, w)
	}
	b = binary.AppendUvarint(b, uint64(len(c.Consts)))
	for _, n := range c.Consts {
		b = binary.AppendVarint(b, int64(n))
	}
	b = binary.AppendUvarint(b, uint64(len(c.Names)))
	for _, s := range c.Names {
		b = append(binary.AppendUvarint(b, uint64(len(s))), s...)
	}
	b = binary.AppendUvarint(b, uint64(len(c.Cells)))
	for _, k := range c.Cells {
		b = binary.AppendUvarint(b, uint64(k))
	}
	return string(b)
}

func plainSum(body string) uint64 {
	var h uint64
	for _, b := range []byte(body) {
		h = (h ^ 2*uint64(b)) * 11400714819323198485
		h ^= h >> 32
	}
	return h
}

func plainSealed(body string) string {
	return string(binary.LittleEndian.AppendUint64([]byte(body), plainSum(body)))
}

// plainList reads how many there are, and each one, till one can't be read.
func plainList(s string, one func(string) (string, bool)) (string, bool) {
	many, took := binary.Uvarint([]byte(s))
	if took <= 0 {
		return "", false
	}
	s = s[took:]
	for i := uint64(0); i < many; i++ {
		rest, is := one(s)
		if !is || len(rest) == len(s) {
			return "", false
		}
		s = rest
	}
	return s, true
}

// plainDecode reads whatever has the form of code, however its numbers are written; then it must be right, and the text must be its bytes.
func plainDecode(s string) (api.Code, bool) {
	var c api.Code
	rest, is := strings.CutPrefix(s, "IC1")
	number := func(s string, keep func(uint64)) (string, bool) {
		u, took := binary.Uvarint([]byte(s[:min(len(s), 10)]))
		if took <= 0 {
			return "", false
		}
		keep(u)
		return s[took:], true
	}
	for _, one := range []func(string) (string, bool){
		func(s string) (string, bool) {
			return number(s, func(u uint64) { c.Words = append(c.Words, u) })
		},
		func(s string) (string, bool) {
			return number(s, func(u uint64) { c.Consts = append(c.Consts, int(u>>1)^-int(u&1)) })
		},
		func(s string) (string, bool) {
			long, took := binary.Uvarint([]byte(s))
			if took <= 0 || long > uint64(len(s)-took) {
				return "", false
			}
			end := took + int(long)
			c.Names = append(c.Names, s[took:end])
			return s[end:], true
		},
		func(s string) (string, bool) {
			return number(s, func(u uint64) { c.Cells = append(c.Cells, int(u)) })
		},
	} {
		if is {
			rest, is = plainList(rest, one)
		}
	}
	if !is || !plainRight(c) || plainSealed(plainBody(c)) != s {
		return api.Code{}, false
	}
	return c, true
}

func same(c, d api.Code) bool {
	return slices.Equal(c.Words, d.Words) && slices.Equal(c.Consts, d.Consts) && slices.Equal(c.Names, d.Names) && slices.Equal(c.Cells, d.Cells)
}

func empty(c api.Code) bool {
	return len(c.Words)+len(c.Consts)+len(c.Names)+len(c.Cells) == 0
}

// brief is enough of a thing to know it by.
func brief(s string) string { return s[:min(len(s), 200)] }

// checkCode holds all calls of code against the plain way, and C4 of it; it tells whether the code is right.
func checkCode(t *testing.T, c api.Code) bool {
	t.Helper()
	right, body := plainRight(c), plainBody(c)
	if got := code.Right(c); got != right {
		t.Errorf("Right of %q: %t", brief(body), got)
	}
	if !right {
		if s, e := code.Encode(c); s != "" || e != api.ErrCodeForm {
			t.Errorf("Encode of %q: %q, %d", brief(body), brief(s), e)
		}
		if h := code.Sum(c); h != 0 {
			t.Errorf("Sum of %q: %d", brief(body), h)
		}
		return false
	}
	if h := code.Sum(c); h != plainSum(body) {
		t.Errorf("Sum of %q: %d, want %d", brief(body), h, plainSum(body))
	}
	s, e := code.Encode(c)
	if want := plainSealed(body); s != want || e != api.OK {
		t.Errorf("Encode: %q, %d; want %q", brief(s), e, brief(want))
	}
	if d, e := code.Decode(s); !same(c, d) || e != api.OK {
		t.Errorf("Decode of Encode of %q: %d", brief(body), e)
	}
	return true
}

// checkText holds Decode of a text against the plain way, and C4 of it; it tells whether the text is taken.
func checkText(t *testing.T, s string) bool {
	t.Helper()
	want, is := plainDecode(s)
	c, e := code.Decode(s)
	if !is {
		if !empty(c) || e != api.ErrCodeForm {
			t.Errorf("Decode(%q): %d", brief(s), e)
		}
		return false
	}
	if !same(c, want) || e != api.OK {
		t.Errorf("Decode(%q): %d", brief(s), e)
	}
	if back, e := code.Encode(c); back != s || e != api.OK {
		t.Errorf("Encode of Decode(%q): %q, %d", brief(s), brief(back), e)
	}
	return true
}
