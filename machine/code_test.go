package machine_test

import (
	"fmt"
	"slices"
	"strconv"
	"strings"

	"isthmus/api"
)

// word lays its fields as chapter 1 says; those of a test have room.
func word(op, a, b int) uint64 { return uint64(op)<<56 + uint64(a)<<28 + uint64(b) }

func fields(w uint64) (op, a, b int) {
	return int(w >> 56), int(w >> 28 & (1<<28 - 1)), int(w & (1<<28 - 1))
}

// operations are their names, by their numbers.
var operations = strings.Fields("Halt Const Vertex Var Neg Not Add Sub Mul Div Rem Eq Less Jump False True Call Fetch Keep Clear All Named Around List Next Close Best Some")

// names are those of sets in tests; of the last one there is never a set.
var names = []string{"few", "many", "even", "nobody"}

// place is where something stands in a list; it is put there, if it is not.
func place[T comparable](list *[]T, x T) int {
	if !slices.Contains(*list, x) {
		*list = append(*list, x)
	}
	return slices.Index(*list, x)
}

// read is code as a test writes it: its words, each by its operation's name and numbers, or `7`, `true`, `@7`, `Named few`; behind `*` stands how often. `again:` is the number of the word behind it, wherever `again` is told. The Cells are one of each kind.
func read(text string) api.Code {
	c := api.Code{Cells: []int{api.KindInt, api.KindBool, api.KindVertex}}
	labels := map[string]int{}
	var items []string
	for _, item := range strings.Split(text, ", ") {
		if label, is := strings.CutSuffix(item, ":"); is {
			labels[label] = len(items)
			continue
		}
		item, times, often := strings.Cut(item, "*")
		many := 1
		if often {
			many = number(times)
		}
		items = append(items, slices.Repeat([]string{item}, many)...)
	}
	for _, item := range items {
		c.Words = append(c.Words, readWord(&c, labels, item))
	}
	return c
}

func readWord(c *api.Code, labels map[string]int, item string) uint64 {
	parts := append(strings.Fields(item), "0", "0")
	first := parts[0]
	if n, err := strconv.Atoi(first); err == nil {
		return word(api.OpConst, place(&c.Consts, n), api.KindInt)
	}
	if id, is := strings.CutPrefix(first, "@"); is {
		return word(api.OpVertex, place(&c.Consts, number(id)), 0)
	}
	switch first {
	case "true", "false":
		return word(api.OpConst, place(&c.Consts, truth(first == "true")), api.KindBool)
	case "Named":
		return word(api.OpNamed, place(&c.Names, parts[1]), 0)
	}
	op := slices.Index(operations, first)
	if op < 0 {
		panic(item)
	}
	field := func(text string) int {
		if at, is := labels[text]; is {
			return at
		}
		return number(text)
	}
	return word(op, field(parts[1]), field(parts[2]))
}

func number(text string) int {
	n, err := strconv.Atoi(text)
	if err != nil {
		panic(err)
	}
	return n
}

func truth(is bool) int {
	if is {
		return 1
	}
	return 0
}

// written is code as a message has room for it.
func written(c api.Code) string {
	var words []string
	for _, w := range c.Words[:min(len(c.Words), 80)] {
		op, a, b := fields(w)
		words = append(words, strings.TrimSpace(fmt.Sprintln(operations[op], a, b)))
	}
	return fmt.Sprintf("%d words: %s; consts %v, names %v, cells %v", len(c.Words), strings.Join(words, ", "), c.Consts[:min(len(c.Consts), 20)], c.Names, c.Cells)
}

// numbers draws: a row of numbers that is the same each time.
func numbers() func(below int) int {
	x := uint64(88172645463325252)
	return func(below int) int {
		x ^= x << 13
		x ^= x >> 7
		x ^= x << 17
		return int(x >> 11 % uint64(below))
	}
}
