package guard_test

import (
	"fmt"
	"strings"
	"testing"

	"isthmus/api"
)

// eachCode verifies all codes of up to so many of these words, and tells how often each error came.
func eachCode(t *testing.T, longest int, alphabet ...string) map[api.Errno]int {
	t.Helper()
	var all []uint64
	for _, item := range alphabet {
		all = append(all, readWord(item))
	}
	seen := map[api.Errno]int{}
	words := make([]uint64, 0, longest)
	var further func()
	further = func() {
		if len(words) > 0 {
			_, e, _ := verified(t, with(words...))
			seen[e]++
		}
		if len(words) == longest {
			return
		}
		for _, w := range all {
			words = append(words, w)
			further()
			words = words[:len(words)-1]
		}
	}
	further()
	return seen
}

// leading are words that lead to each of the first words.
func leading(form string, many int) []string {
	var all []string
	for to := range many {
		all = append(all, fmt.Sprintf(form, to))
	}
	return all
}

func wantSeen(t *testing.T, seen map[api.Errno]int, many int) {
	t.Helper()
	for _, e := range []api.Errno{api.OK, api.ErrGuardJump, api.ErrGuardStack, api.ErrGuardMeet, api.ErrGuardCell} {
		if seen[e] < many {
			t.Errorf("so often each error came: %v", seen)
		}
	}
}

// All codes of up to three words, of all operations.
func TestV1AllSmall(t *testing.T) {
	var words []string
	for _, x := range doing {
		words = append(words, strings.Replace(strings.Replace(x.word, "False", "False 2", 1), "True", "True 1", 1))
	}
	words = append(words, "Halt", "Var 1", "Jump 0", "Jump 1", "Jump 2", "Jump 3", "False 0", "True 3", "Fetch 0 0", "Fetch 0 1", "Fetch 0 2", "Fetch 1 2", "Fetch 2 1", "Next 0", "Next 1", "Next 2", "Next 3", "Next 4")
	wantSeen(t, eachCode(t, 3, words...), 9)
}

// All codes of up to five words, of cells and ways.
func TestV1AllCells(t *testing.T) {
	wantSeen(t, eachCode(t, 5, "i", "b", "Fetch 0 2", "Fetch 1 3", "Keep", "Keep 1", "False 3", "Halt", "Jump 4", "Some"), 100)
}

// All codes of up to six words, of ways to and fro.
func TestV1AllWays(t *testing.T) {
	seen := eachCode(t, 6, "b", "Jump 1", "Jump 3", "True 0", "True 2", "False 4", "Halt")
	seen[api.ErrGuardCell] = 1000 // no cells here
	wantSeen(t, seen, 1000)
}

// All codes of up to five words, of rounds.
func TestV1AllRounds(t *testing.T) {
	seen := eachCode(t, 5, append(leading("Next %d", 5), "All", "Around", "Var", "Var 1", "Close", "Halt", "Jump 1")...)
	seen[api.ErrGuardCell] = 500
	wantSeen(t, seen, 16)
}

// All codes of up to five words that lead to each place and beyond.
func TestV1AllJumps(t *testing.T) {
	seen := eachCode(t, 5, append(leading("Jump %d", 6), "i", "v", "Halt", "b", "False 1")...)
	seen[api.ErrGuardCell] = 500
	wantSeen(t, seen, 500)
}
