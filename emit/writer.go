package emit

import (
	"slices"

	"isthmus/api"
	"isthmus/pack"
)

// writer lays the words of a plan's parts, one behind the other.
type writer struct {
	code    api.Code
	consts  map[int]int    // their places in the code's Consts
	names   map[string]int // their places in the code's Names
	levels  []int          // of each of the plan's cells: on how many quantifiers it hangs
	deepest int            // the most values that were on the stack behind a word
}

func newWriter(levels []int) *writer {
	cells := slices.Repeat([]int{api.KindInt}, len(levels))
	return &writer{code: api.Code{Cells: cells}, consts: map[int]int{}, names: map[string]int{}, levels: levels}
}

// lay puts a word behind the others, and tells its number. All fields have room in it: not even a plan that is too long comes to 2^28 words.
func (w *writer) lay(op, a, b int) int {
	word, _ := pack.Word(op, a, b)
	w.code.Words = append(w.code.Words, word)
	return len(w.code.Words) - 1
}

// push lays a word that pushes a value. No other word makes the stack higher than these do: what a full cell pushes comes to where the worth of the cell's kid would.
func (w *writer) push(op, a, b int, at spot) {
	w.lay(op, a, b)
	w.deepest = max(w.deepest, at.under+1)
}

func (w *writer) constant(n, kind int, at spot) {
	w.push(api.OpConst, w.constPlace(n), kind, at)
}

// next is the number of the word that comes next.
func (w *writer) next() int { return len(w.code.Words) }

// land mends a word that leads onward: it leads to the word that comes next.
func (w *writer) land(number int) {
	op, a, b := pack.Parts(w.code.Words[number])
	if op == api.OpFetch {
		b = w.next()
	} else {
		a = w.next()
	}
	w.code.Words[number], _ = pack.Word(op, a, b)
}

// fork lays a word that leads onward to the second of two ways, and both ways; the first one passes over the second.
func (w *writer) fork(op int, first, second func()) {
	defer w.land(w.firstWay(op, first))
	second()
}

// firstWay is the number of its last word, which leads onward past the second way.
func (w *writer) firstWay(op int, lay func()) int {
	defer w.land(w.lay(op, 0, 0))
	lay()
	return w.lay(api.OpJump, 0, 0)
}

func (w *writer) constPlace(n int) int {
	place, is := w.consts[n]
	if !is {
		place = len(w.code.Consts)
		w.consts[n] = place
		w.code.Consts = append(w.code.Consts, n)
	}
	return place
}

func (w *writer) namePlace(name string) int {
	place, is := w.names[name]
	if !is {
		place = len(w.code.Names)
		w.names[name] = place
		w.code.Names = append(w.code.Names, name)
	}
	return place
}
