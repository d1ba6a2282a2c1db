package code_test

import (
	"math"
	"strings"
	"testing"

	"isthmus/api"
	"isthmus/code"
)

// pinned are codes, with bytes and sums that were reckoned apart from this program.
func pinned() []struct {
	code  api.Code
	bytes string
	sum   uint64
} {
	return []struct {
		code  api.Code
		bytes string
		sum   uint64
	}{
		{
			api.Code{Words: []uint64{0}},
			"IC1\x01\x00\x00\x00\x00\x4b\xe6\xc8\xe5\x27\x9b\x27\x86",
			9666865720835237451,
		},
		{
			api.Code{Words: []uint64{word(api.OpConst, 0, api.KindInt), word(api.OpHalt, 0, 0)}, Consts: []int{7}},
			"IC1\x02\x81\x80\x80\x80\x80\x80\x80\x80\x01\x00\x01\x0e\x00\x00\xe5\x55\x7a\x0b\xd0\xf2\x55\x84",
			9535794761386579429,
		},
		{
			api.Code{
				Words:  []uint64{word(api.OpFetch, 1, 1<<28-1), word(api.OpConst, 1, api.KindBool)},
				Consts: []int{math.MinInt, 1, math.MaxInt, -1}, Names: []string{"a", "few_2"}, Cells: []int{3, 2, 1},
			},
			"IC1\x02\xff\xff\xff\xff\x81\x80\x80\x80\x11\x82\x80\x80\x80\x81\x80\x80\x80\x01" +
				"\x04\xff\xff\xff\xff\xff\xff\xff\xff\xff\x01\x02\xfe\xff\xff\xff\xff\xff\xff\xff\xff\x01\x01" +
				"\x02\x01a\x05few_2\x03\x03\x02\x01\xbe\xb3\xa7\xf2\x47\xa0\x0d\x85",
			9587495412615852990,
		},
	}
}

func TestC1SumPinned(t *testing.T) {
	for _, c := range pinned() {
		if h := code.Sum(c.code); h != c.sum {
			t.Errorf("Sum(%v): %d, want %d", c.code, h, c.sum)
		}
	}
}

func TestC2Pinned(t *testing.T) {
	for _, c := range pinned() {
		if s, e := code.Encode(c.code); s != c.bytes || e != api.OK {
			t.Errorf("Encode(%v): %q, %d; want %q", c.code, s, e, c.bytes)
		}
	}
}

func TestC2Wrong(t *testing.T) {
	for _, c := range []api.Code{{}, {Words: []uint64{word(api.OpVar, 4, 0)}}, {Words: []uint64{0}, Names: []string{"in"}}} {
		if s, e := code.Encode(c); s != "" || e != api.ErrCodeForm {
			t.Errorf("Encode(%v): %q, %d", c, s, e)
		}
	}
}

func TestC3Pinned(t *testing.T) {
	for _, c := range pinned() {
		if d, e := code.Decode(c.bytes); !same(c.code, d) || e != api.OK {
			t.Errorf("Decode(%q): %v, %d; want %v", c.bytes, d, e, c.code)
		}
	}
}

func refused(t *testing.T, s string) {
	t.Helper()
	if c, e := code.Decode(s); !empty(c) || e != api.ErrCodeForm {
		t.Errorf("Decode(%q): %v, %d", brief(s), c, e)
	}
}

func TestC3WrongSum(t *testing.T) {
	for _, c := range pinned() {
		for i := len(c.bytes) - 8; i < len(c.bytes); i++ {
			for bit := range 8 {
				b := []byte(c.bytes)
				b[i] ^= 1 << bit
				refused(t, string(b))
			}
		}
		refused(t, c.bytes[:len(c.bytes)-8])
		refused(t, c.bytes[:len(c.bytes)-1])
		refused(t, c.bytes+"\x00")
		refused(t, c.bytes+c.bytes)
		refused(t, c.bytes+c.bytes[len(c.bytes)-8:])
	}
}

// TestC3Form: texts whose sum is right, and which are no code's bytes all the same.
func TestC3Form(t *testing.T) {
	const head = "IC1\x01\x00"
	for _, body := range []string{
		"", "I", "IC", "IC1", "ic1\x01\x00\x00\x00\x00", "IC2\x01\x00\x00\x00\x00", "IC\x01\x00\x00\x00\x00", " IC1\x01\x00\x00\x00\x00",
		"IC1\x00\x00\x00\x00",     // no words
		"IC1\x01\x00\x00\x00",     // no cells told
		head + "\x00\x00\x00\x00", // one byte more
		"IC1\x81\x00\x00\x00\x00\x00",
		"IC1\x01\x80\x00\x00\x00\x00",
		head + "\x80\x00\x00\x00", head + "\x00\x80\x00\x00", head + "\x00\x00\x80\x00",
		head + "\x01\x80\x00\x00\x00",                                     // a constant 0 in two bytes
		head + "\x01\xff\xff\xff\xff\xff\xff\xff\xff\xff\x02\x00\x00",     // of 65 bits
		head + "\x01\xff\xff\xff\xff\xff\xff\xff\xff\xff\x81\x00\x00\x00", // of eleven bytes
		head + "\x00\x01\x81\x00a\x00",                                    // a name's length in two bytes
		head + "\x00\x01\x00\x00", head + "\x00\x01\x02in\x00", head + "\x00\x01\x01A\x00",
		head + "\x00\x01\x0dabcdefghijklm\x00",
		head + "\x00\x01\x05few\x00", // longer than there are bytes
		head + "\x00\x00\x01\x00", head + "\x00\x00\x01\x04", head + "\x00\x00\x01\x81\x00",
		head + "\x00\x00\x01\x81\x02",                         // 257
		head + "\x00\x00\x01\x81\x80\x80\x80\x10",             // 2^32 + 1
		"IC1\x01\x80\x80\x80\x80\x80\x80\x80\x80\x80\x01\x00", // a word of the operation 128
	} {
		refused(t, plainSealed(body))
		checkText(t, plainSealed(body))
	}
	for _, body := range []string{
		head + "\x00\x00\x00", head + "\x01\x00\x00\x00", head + "\x00\x01\x03few\x00", head + "\x00\x01\x0cabcdefghijkl\x01\x03",
		head + "\x01\xff\xff\xff\xff\xff\xff\xff\xff\xff\x01\x00\x00",
	} {
		if !checkText(t, plainSealed(body)) {
			t.Errorf("%q is not taken", body)
		}
	}
}

// TestC3Counts: how many there are is told greater than may be, with so much behind it or nothing.
func TestC3Counts(t *testing.T) {
	wrong := []string{
		"\x81\x80\x02", "\x80\x80\x04", "\xff\xff\xff\x7f", "\x80\x80\x80\x80\x08", "\x81\x80\x80\x80\x10", "\x80\x80\x80\x80\x10",
		"\xff\xff\xff\xff\xff\xff\xff\xff\x7f", "\x80\x80\x80\x80\x80\x80\x80\x80\x80\x01",
		"\x81\x80\x80\x80\x80\x80\x80\x80\x80\x01", "\xff\xff\xff\xff\xff\xff\xff\xff\xff\x01",
	}
	for _, ahead := range []string{"IC1", "IC1\x01\x00", "IC1\x01\x00\x00", "IC1\x01\x00\x00\x01", "IC1\x01\x00\x00\x00", "IC1\x01\x00\x00\x00\x01"} {
		for _, many := range wrong {
			for _, behind := range []string{"", "\x00", "\x01\x00\x00\x00\x00", strings.Repeat("\x01", 70000)} {
				refused(t, plainSealed(ahead+many+behind))
				refused(t, ahead+many+behind)
			}
		}
	}
}

// TestC3EachChange goes through all texts that are one change away from some bytes: with the sum as it was all are refused, with a sum of their own they are as the plain way says.
func TestC3EachChange(t *testing.T) {
	taken := 0
	for _, c := range pinned() {
		body := c.bytes[:len(c.bytes)-8]
		seal := c.bytes[len(c.bytes)-8:]
		for i := range len(body) {
			changed := []string{body[:i], body[:i] + body[i+1:]}
			for b := range 256 {
				one := string([]byte{byte(b)})
				changed = append(changed, body[:i]+one+body[i+1:], body[:i]+one+body[i:])
			}
			for _, other := range changed {
				if other != body {
					refused(t, other+seal)
				}
				if checkText(t, plainSealed(other)) {
					taken++
				}
			}
		}
	}
	if taken < 1000 {
		t.Errorf("of the changed texts only %d were taken", taken)
	}
}

func TestC3Lengths(t *testing.T) {
	s := pinned()[2].bytes
	for i := range len(s) {
		refused(t, s[:i])
		refused(t, s[i+1:])
		checkText(t, plainSealed(s[:i]))
	}
	refused(t, strings.Repeat("\x80", 1<<20))
	refused(t, "IC1"+strings.Repeat("\x00", 1<<20))
	refused(t, strings.Repeat("IC1", 1<<16))
}
