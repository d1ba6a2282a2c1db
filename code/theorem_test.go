package code_test

import (
	"math"
	"slices"
	"strconv"
	"testing"

	"isthmus/api"
	"isthmus/code"
)

// draw is a row of numbers that is the same each time.
type draw uint64

func (d *draw) below(n int) int {
	x := uint64(*d)
	x ^= x << 13
	x ^= x >> 7
	x ^= x << 17
	*d = draw(x)
	return int(x >> 11 % uint64(n))
}

func (d *draw) whole() int {
	n := d.below(math.MaxInt)<<1 ^ d.below(4)
	return n >> d.below(64)
}

// lists are those of some code, all of them right.
func (d *draw) lists() api.Code {
	var c api.Code
	for range d.below(8) {
		c.Consts = append(c.Consts, d.whole())
	}
	for range d.below(5) {
		c.Names = append(c.Names, "q"+strconv.Itoa(d.below(1<<(1+d.below(32)))))
	}
	for range d.below(5) {
		c.Cells = append(c.Cells, 1+d.below(3))
	}
	return c
}

// code has up to so many words; nearly all of it is right, if wrong is false.
func (d *draw) code(words int, wrong bool) api.Code {
	c := d.lists()
	for len(c.Words) < 1+d.below(words) {
		w := word(d.below(28), 0, 0)
		if d.below(3) > 0 {
			w += word(0, d.below(1<<d.below(29)), 0)
		}
		if d.below(3) == 0 {
			w += word(0, 0, d.below(1<<d.below(29)))
		}
		if plainWord(w, c) || wrong && d.below(20) == 0 {
			c.Words = append(c.Words, w)
		}
	}
	return c
}

func TestC4DrawnCode(t *testing.T) {
	d := draw(88172645463325252)
	right := map[bool]int{}
	texts := map[string]api.Code{}
	for i := range 20000 {
		c := d.code(30, i%2 == 0)
		is := checkCode(t, c)
		right[is]++
		if !is {
			continue
		}
		s, _ := code.Encode(c)
		if other, there := texts[s]; there && !same(c, other) {
			t.Errorf("two codes have the bytes %q", s)
		}
		texts[s] = c
	}
	if right[true] < 5000 || right[false] < 2000 || len(texts) < 5000 {
		t.Errorf("drawn were %v, of %d texts", right, len(texts))
	}
}

// TestC4DrawnTexts: bytes are put in, taken out and changed at some places; half of the texts have a right sum.
func TestC4DrawnTexts(t *testing.T) {
	d := draw(362436069362436069)
	taken := map[bool]int{}
	for i := range 40000 {
		b := []byte(plainBody(d.code(6, false)))
		for range d.below(4) {
			at := d.below(len(b))
			switch one := byte(d.below(256) >> d.below(9)); d.below(3) {
			case 0:
				b[at] = one
			case 1:
				b = slices.Insert(b, at, one)
			case 2:
				b = slices.Delete(b, at, min(len(b), at+1+d.below(3)))
			}
			if len(b) == 0 {
				break
			}
		}
		s := string(b)
		if i%4 != 0 {
			s = plainSealed(s)
		}
		taken[checkText(t, s)]++
	}
	if taken[true] < 5000 || taken[false] < 5000 {
		t.Errorf("of the drawn texts so many were taken, and not: %v", taken)
	}
}

// TestC4OneText: another way to write the same numbers is no other text of the code.
func TestC4OneText(t *testing.T) {
	d := draw(123456789123456789)
	for range 200 {
		body := plainBody(d.code(4, false))
		for i := 3; i < len(body); i++ {
			if body[i] < 128 {
				refused(t, plainSealed(body[:i]+string([]byte{body[i] + 128, 0})+body[i+1:]))
			}
		}
	}
}

// TestC4Great: code that fills all its room.
func TestC4Great(t *testing.T) {
	d := draw(55555)
	c := at(0, 32768, 2000, 256)
	for i := range c.Consts {
		c.Consts[i] = d.whole()
	}
	for i := range c.Cells {
		c.Cells[i] = 1 + d.below(3)
	}
	for len(c.Words) < 32768 {
		w := word(d.below(28), d.below(1<<d.below(29)), d.below(1<<d.below(29))*d.below(2))
		if plainWord(w, c) {
			c.Words = append(c.Words, w)
		}
	}
	if !checkCode(t, c) || !checkText(t, plainSealed(plainBody(c))) {
		t.Error("it is not right")
	}
}
