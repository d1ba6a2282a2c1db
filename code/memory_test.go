package code_test

import (
	"slices"
	"testing"

	"isthmus/api"
	"isthmus/code"
)

// roomy is a list with something behind its length.
func roomy[T any](l []T, behind T) []T {
	return append(slices.Clone(l), behind, behind, behind)[:len(l)]
}

func behind[T any](l []T) []T { return l[len(l) : len(l)+3] }

func TestGivenIsKeptWhole(t *testing.T) {
	for _, words := range [][]uint64{{0, word(api.OpConst, 1, api.KindBool)}, {word(api.OpVar, 4, 0)}} {
		was := full()
		was.Words = words
		c := api.Code{Words: roomy(was.Words, 77), Consts: roomy(was.Consts, 77), Names: roomy(was.Names, "behind"), Cells: roomy(was.Cells, 77)}
		code.Right(c)
		code.Sum(c)
		code.Encode(c)
		if !same(c, was) {
			t.Errorf("the code is another one: %v", c)
		}
		seven := []int{77, 77, 77}
		if !slices.Equal(behind(c.Words), []uint64{77, 77, 77}) || !slices.Equal(behind(c.Consts), seven) || !slices.Equal(behind(c.Cells), seven) || !slices.Equal(behind(c.Names), []string{"behind", "behind", "behind"}) {
			t.Error("what is behind its lists was written into")
		}
	}
}

// spoil writes into a list, and into all its room.
func spoil[T any](l []T, x T) {
	l = l[:cap(l)]
	for i := range l {
		l[i] = x
	}
}

func TestAnswerIsNew(t *testing.T) {
	want := full()
	s, _ := code.Encode(want)
	for which := range 4 {
		first, _ := code.Decode(s)
		second, _ := code.Decode(s)
		switch which {
		case 0:
			spoil(first.Words, 99)
			first.Words = want.Words
		case 1:
			spoil(first.Consts, 99)
			first.Consts = want.Consts
		case 2:
			spoil(first.Names, "spoiled")
			first.Names = want.Names
		case 3:
			spoil(first.Cells, 99)
			first.Cells = want.Cells
		}
		third, e := code.Decode(s)
		if !same(first, want) || !same(second, want) || !same(third, want) || e != api.OK {
			t.Errorf("list %d of an answer shares memory", which)
		}
	}
}

// TestNothingIsKept: what was asked ahead, right or wrong, tells in no later answer.
func TestNothingIsKept(t *testing.T) {
	c := full()
	s, _ := code.Encode(c)
	h := code.Sum(c)
	for range 3 {
		code.Decode(s[:len(s)-1])
		code.Encode(api.Code{})
		code.Sum(api.Code{Words: []uint64{0}})
		if again, e := code.Encode(c); again != s || e != api.OK || code.Sum(c) != h {
			t.Errorf("Encode answers otherwise: %q, %d", again, e)
		}
		if d, e := code.Decode(s); !same(c, d) || e != api.OK {
			t.Errorf("Decode answers otherwise: %v, %d", d, e)
		}
	}
}
