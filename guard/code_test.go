package guard_test

import (
	"fmt"
	"slices"
	"strconv"
	"strings"
	"testing"

	"isthmus/api"
	"isthmus/guard"
)

// word lays its fields as chapter 1 says; those of a test have room.
func word(op, a, b int) uint64 { return uint64(op)<<56 + uint64(a)<<28 + uint64(b) }

func fields(w uint64) (op, a, b int) {
	return int(w >> 56), int(w >> 28 & (1<<28 - 1)), int(w & (1<<28 - 1))
}

// with is code of words, with lists in which they find all that they need: the constants 0, 1 and 7, the name few, and cells of the kinds 1, 2 and 3.
func with(words ...uint64) api.Code {
	return api.Code{Words: words, Consts: []int{0, 1, 7}, Names: []string{"few"}, Cells: []int{1, 2, 3}}
}

// short are words that are written in one letter: they push a value of a kind.
var short = map[string]uint64{"i": word(api.OpConst, 2, api.KindInt), "b": word(api.OpConst, 1, api.KindBool), "v": word(api.OpVertex, 2, 0)}

// read is a code as a test writes it: its words, as written tells them, or short. Behind `*` stands how often.
func read(text string) api.Code {
	var words []uint64
	for _, item := range strings.Split(text, ", ") {
		item, times, often := strings.Cut(item, "*")
		many := 1
		if often {
			many = number(times)
		}
		words = append(words, slices.Repeat([]uint64{readWord(item)}, many)...)
	}
	return with(words...)
}

func readWord(item string) uint64 {
	if w, is := short[item]; is {
		return w
	}
	parts := append(strings.Fields(item), "0", "0")
	op := slices.Index(operations, "Op"+parts[0])
	if op < 0 {
		panic(item)
	}
	return word(op, number(parts[1]), number(parts[2]))
}

func number(text string) int {
	n, err := strconv.Atoi(text)
	if err != nil {
		panic(err)
	}
	return n
}

// written is code as a message has room for it.
func written(c api.Code) string {
	var words []string
	for _, w := range c.Words[:min(len(c.Words), 80)] {
		op, a, b := fields(w)
		name := "?" + strconv.Itoa(op)
		if op < len(operations) {
			name = operations[op][2:]
		}
		words = append(words, strings.TrimSpace(fmt.Sprintln(name, a, b)))
	}
	return fmt.Sprintf("%d words: %s; %d consts, %d names, cells %v", len(c.Words), strings.Join(words, ", "), len(c.Consts), len(c.Names), c.Cells)
}

// verified is what Verify answers of code, held to the plain way and, of code that is taken, to the chapter's theorem.
func verified(t *testing.T, c api.Code) (api.Limits, api.Errno, int) {
	t.Helper()
	limits, e, at := guard.Verify(c)
	wantLimits, want, wantAt := plainVerify(c)
	if limits != wantLimits || e != want || at != wantAt {
		t.Fatalf("%v, %d at %d; wanted %v, %d at %d of %s", limits, e, at, wantLimits, want, wantAt, written(c))
	}
	if e == api.OK {
		runs(t, c, limits)
	}
	return limits, e, at
}

// wantTaken holds both ways to what is said of code that is taken.
func wantTaken(t *testing.T, c api.Code, stack, rounds, kind int) {
	t.Helper()
	want := api.Limits{Stack: stack, Rounds: rounds, Kind: kind}
	if limits, e, at := verified(t, c); limits != want || e != api.OK || at != 0 {
		t.Errorf("%v, %d at %d; wanted %v of %s", limits, e, at, want, written(c))
	}
}

// wantRefused holds both ways to what is said of code that is refused.
func wantRefused(t *testing.T, c api.Code, want api.Errno, wantAt int) {
	t.Helper()
	if limits, e, at := verified(t, c); limits != (api.Limits{}) || e != want || at != wantAt {
		t.Errorf("%v, %d at %d; wanted %d at %d of %s", limits, e, at, want, wantAt, written(c))
	}
}

// draw is a row of numbers that is the same each time.
type draw uint64

func (d *draw) below(n int) int {
	x := uint64(*d)
	x ^= x << 13
	x ^= x >> 7
	x ^= x << 17
	*d = draw(x)
	return int(x >> 11 % uint64(n))
}
