package code_test

import (
	"math"
	"slices"
	"strconv"
	"strings"
	"testing"

	"isthmus/api"
	"isthmus/code"
)

// full has something in each list, and one place more in each than in the one ahead.
func full() api.Code {
	return api.Code{
		Words:  []uint64{word(api.OpHalt, 0, 0)},
		Consts: []int{0, 1, 2, -1, math.MaxInt, math.MinInt},
		Names:  []string{"few", "a", "abcdefghijkl", "in_", "x9", "few", "z"},
		Cells:  []int{1, 2, 3, 3, 2, 1, 1, 2},
	}
}

// edges are numbers of a word at which something may go wrong.
func edges() []int {
	var l []int
	for n := range 13 {
		l = append(l, n)
	}
	for _, n := range []int{128, 256, 1024, 2000, 4096, 32768, 1 << 16, 1 << 20, 1 << 27} {
		l = append(l, n-1, n, n+1)
	}
	return append(l, 1<<28-2, 1<<28-1)
}

func TestC1Examples(t *testing.T) {
	for _, c := range []struct {
		code api.Code
		want bool
	}{
		{api.Code{Words: []uint64{word(api.OpConst, 0, api.KindInt), word(api.OpHalt, 0, 0)}, Consts: []int{7}}, true},
		{api.Code{}, false},
		{api.Code{Words: []uint64{}, Consts: []int{7}, Names: []string{"few"}, Cells: []int{1}}, false},
		{api.Code{Words: []uint64{word(api.OpVar, 4, 0)}}, false},
		{api.Code{Words: []uint64{word(api.OpVar, 3, 0)}}, true},
		{api.Code{Words: []uint64{word(api.OpConst, 1, api.KindInt)}, Consts: []int{7}}, false},
		{api.Code{Words: []uint64{word(api.OpHalt, 1, 0)}}, false},
		{api.Code{Words: []uint64{word(api.OpHalt, 0, 1)}}, false},
		{api.Code{Words: []uint64{math.MaxUint64}}, false},
		{api.Code{Words: []uint64{word(28, 0, 0)}}, false},
		{api.Code{Words: []uint64{word(api.OpSome, 0, 0)}}, true},
	} {
		if got := code.Right(c.code); got != c.want {
			t.Errorf("Right(%v): %t", c.code, got)
		}
		checkCode(t, c.code)
	}
}

// TestC1Table goes through all operations that a word has room for, with all edges of both numbers, in code with lists and without.
func TestC1Table(t *testing.T) {
	right := map[int]int{}
	for _, c := range []api.Code{{}, full(), {Consts: []int{1}, Names: []string{"a"}, Cells: []int{3}}} {
		for op := range 256 {
			for _, a := range edges() {
				for _, b := range edges() {
					c.Words = []uint64{word(op, a, b)}
					want := plainRight(c)
					if got := code.Right(c); got != want {
						t.Errorf("Right of the word %d, %d, %d: %t", op, a, b, got)
					}
					if want {
						right[op]++
					}
				}
			}
		}
	}
	if len(right) != 28 {
		t.Errorf("right words were of these operations only: %v", right)
	}
}

func TestC1ConstsOfWords(t *testing.T) {
	for _, n := range []int{math.MinInt, -1 << 40, -2, -1, 0, 1, 2, 3, 1 << 28, 1<<40 + 1, 1 << 62, math.MaxInt} {
		for place := range 3 {
			consts := []int{5, 5, 5}
			consts[place] = n
			for _, c := range []struct {
				word uint64
				want bool
			}{
				{word(api.OpConst, place, api.KindInt), true},
				{word(api.OpConst, place, api.KindBool), n == 0 || n == 1},
				{word(api.OpVertex, place, 0), n >= 0},
				{word(api.OpConst, place, api.KindVertex), false},
			} {
				x := api.Code{Words: []uint64{0, c.word}, Consts: consts}
				if got := code.Right(x); got != c.want {
					t.Errorf("Right of the word %x with the constant %d at %d: %t", c.word, n, place, got)
				}
				checkCode(t, x)
			}
		}
	}
}

// TestC1Alone: what no word uses must be right too, and what may be in one list need not be in another.
func TestC1Alone(t *testing.T) {
	wrongNames := append(strings.Fields(theWords), "", "X", "aB", "1a", "_a", "abcdefghijklm", "a b", "a-", "\x80", "a\x80", "é", "aé", "a\x00", "few ", " few", strings.Repeat("a", 3000))
	for _, s := range wrongNames {
		for place := range 3 {
			c := full()
			c.Names[place*3] = s
			if code.Right(c) || checkCode(t, c) {
				t.Errorf("the name %q at %d is right", brief(s), place*3)
			}
		}
	}
	for _, s := range []string{"a", "z", "abcdefghijkl", "a_1", "al", "alls", "allx_", "z99999999999"} {
		c := api.Code{Words: []uint64{0}, Names: []string{s, s}}
		if !code.Right(c) || !checkCode(t, c) {
			t.Errorf("the name %q is not right", s)
		}
	}
	for _, k := range []int{math.MinInt, -1, 0, 1, 2, 3, 4, 257, 1<<32 + 1, 1<<56 + 1, math.MaxInt} {
		for place := range 8 {
			c := full()
			c.Cells[place] = k
			if code.Right(c) != (k >= 1 && k <= 3) {
				t.Errorf("Right of the cell %d at %d", k, place)
			}
			checkCode(t, c)
		}
	}
}

func TestC1EveryWord(t *testing.T) {
	for place := range 5 {
		c := full()
		c.Words = []uint64{0, word(api.OpKeep, 7, 0), word(api.OpNamed, 6, 0), word(api.OpVertex, 4, 0), word(api.OpConst, 5, api.KindInt)}
		if !checkCode(t, c) {
			t.Fatal("it is not right")
		}
		c.Words[place] = word(api.OpAdd, 0, 1)
		if checkCode(t, c) {
			t.Errorf("it is right with a wrong word %d", place)
		}
	}
}

// names are so many unlike ones.
func names(many int) []string {
	var l []string
	for i := range many {
		l = append(l, "n"+strconv.Itoa(i))
	}
	return l
}

// at has so many elements in each list, all of which may be.
func at(words, consts, sets, cells int) api.Code {
	return api.Code{
		Words:  slices.Repeat([]uint64{word(api.OpJump, 1<<28-1, 0)}, words),
		Consts: slices.Repeat([]int{math.MinInt}, consts),
		Names:  names(sets),
		Cells:  slices.Repeat([]int{api.KindVertex}, cells),
	}
}

func TestC1Limits(t *testing.T) {
	for _, c := range []struct {
		words, consts, sets, cells int
		want                       bool
	}{
		{1, 0, 0, 0, true}, {0, 0, 0, 0, false}, {0, 1, 1, 1, false},
		{32768, 0, 0, 0, true}, {32769, 0, 0, 0, false}, {65536, 0, 0, 0, false},
		{1, 32768, 0, 0, true}, {1, 32769, 0, 0, false}, {1, 65537, 0, 0, false},
		{1, 0, 2000, 0, true}, {1, 0, 2001, 0, false}, {1, 0, 4000, 0, false},
		{1, 0, 0, 256, true}, {1, 0, 0, 257, false}, {1, 0, 0, 512, false},
		{32768, 32768, 2000, 256, true}, {32768, 32768, 2000, 257, false}, {32769, 32768, 2000, 256, false},
	} {
		x := at(c.words, c.consts, c.sets, c.cells)
		if got := code.Right(x); got != c.want || checkCode(t, x) != c.want {
			t.Errorf("Right of %d words, %d constants, %d names, %d cells: %t", c.words, c.consts, c.sets, c.cells, got)
		}
		if got := checkText(t, plainSealed(plainBody(x))); got != c.want {
			t.Errorf("the bytes of %d words, %d constants, %d names, %d cells are taken: %t", c.words, c.consts, c.sets, c.cells, got)
		}
	}
}

func TestC1LastPlaces(t *testing.T) {
	c := at(1, 32768, 2000, 256)
	for _, x := range []struct {
		op, a, b int
		want     bool
	}{
		{api.OpConst, 32767, api.KindInt, true}, {api.OpConst, 32768, api.KindInt, false},
		{api.OpNamed, 1999, 0, true}, {api.OpNamed, 2000, 0, false},
		{api.OpKeep, 255, 0, true}, {api.OpKeep, 256, 0, false},
		{api.OpClear, 255, 0, true}, {api.OpClear, 256, 0, false},
		{api.OpFetch, 255, 1<<28 - 1, true}, {api.OpFetch, 256, 0, false},
	} {
		c.Words[0] = word(x.op, x.a, x.b)
		if got := code.Right(c); got != x.want {
			t.Errorf("Right of the word %d, %d, %d: %t", x.op, x.a, x.b, got)
		}
	}
}
