package machine_test

import (
	"fmt"
	"testing"

	"isthmus/api"
	"isthmus/store"
)

// digits is a graph of nine vertices, each with its ID as its value: so the vertices of a round are told as digits.
func digits(t *testing.T) *store.Store {
	t.Helper()
	s := newStore(t)
	for _, id := range []int{5, 9, 1, 8, 2, 7, 3, 6, 4} {
		s.AddVertex(id, id)
	}
	for id, ends := range [][2]int{{9, 4}, {1, 9}, {7, 2}} {
		s.AddEdge(id, ends[0], ends[1], id)
	}
	for _, name := range []string{"few", "many"} {
		s.AddSet(name)
	}
	for _, id := range []int{8, 3, 6} {
		s.Put("few", id)
	}
	return s
}

// telling is code that opens a round and is worth the digits of its vertices, one behind the other.
const telling = "0, %s, again:, Next done, 10, Mul, Var 0, Call 8, Add, Jump again, done:, Halt"

func TestRounds(t *testing.T) {
	s := digits(t)
	for opens, want := range map[string]api.Answer{
		"All": isInt(123456789), "Named few": isInt(368), "Named many": isInt(0), "Named nobody": isFault(api.FaultSet),
		"@4, Around": isInt(149), "@1, Around": isInt(149), "@7, Around": isInt(27), "@3, Around": isInt(3), "@10, Around": isFault(api.FaultVertex),
		"List": isInt(0), "@7, List 1": isInt(7), "@7, @2, List 2": isInt(27), "@2, @7, List 2": isInt(27), "@7, @2, @7, @2, @7, List 5": isInt(27), "@9, @8, @7, @6, @5, @4, @3, @2, @1, List 9": isInt(123456789),
		"@5*1023, List 1023": isInt(5), "@3*500, @1*500, List 1000": isInt(13), "@3, @10, List 2": isFault(api.FaultVertex),
	} {
		wantAnswer(t, fmt.Sprintf(telling, opens), s, want)
	}
	wantAnswer(t, "@5, @1*1023, List 1024, Close, 7, Halt", s, isInt(7))
}

// A list pops no more than its own vertices; and what is pushed where they were changes nothing of the round.
func TestLists(t *testing.T) {
	s := digits(t)
	wantAnswer(t, "1, @5, @3, @4, List 2, Close, Call 8, Add, Halt", s, isInt(6))
	wantAnswer(t, "@9, @5, @3, @4, List 2, Close, Eq 0 3, Halt", s, isBool(0))
	wantAnswer(t, "@9, @9, @3, @4, List 2, Close, Eq 0 3, Halt", s, isBool(1))
	wantAnswer(t, "@5, @3, @4, List 3, @9, @8, @7, List 3, Close, 0, again:, Next done, 10, Mul, Var 0, Call 8, Add, Jump again, done:, Halt", s, isInt(345))
	wantAnswer(t, "@5, @3, @4, List 3, 0, again:, Next done, @9, @8, @7, List 3, Close, 10, Mul, Var 0, Call 8, Add, Jump again, done:, Halt", s, isInt(345))
}

// Ahead of its first vertex a round is at 0, whether there is such a vertex or not; one that is opened anew, too.
func TestRoundsAheadOfTheirFirst(t *testing.T) {
	s := digits(t)
	for range 2 {
		for _, opens := range []string{"All", "Named few", "Named many", "@1, Around", "List", "@7, List 1"} {
			wantAnswer(t, opens+", Var 0, Close, Halt", s, isVertex(0))
			wantAnswer(t, "@9, List 1, Next no, "+opens+", Var 1, Close, Close, Halt, no:, @9, Halt", s, isVertex(0))
			wantAnswer(t, "@9, List 1, Next no, "+opens+", Var 0, Close, Close, Halt, no:, @9, Halt", s, isVertex(9))
		}
		wantAnswer(t, "@9, List 1, Next no, All, Next on, Next on, Close, on:, Named few, Var 1, Close, Close, Halt, no:, @9, Halt", s, isVertex(0))
		wantAnswer(t, "@9, List 1, Next no, Close, Named few, Var 0, Close, Halt, no:, @9, Halt", s, isVertex(0))
		s.AddVertex(0, 0)
	}
	s = digits(t)
	wantAnswer(t, "All, Var 0, List 1, Next no, Var 1, Close, Close, Halt, no:, Close, @9, Halt", s, isVertex(0)) // nobody asks whether it is there
	wantAnswer(t, "All, Var 0, @5, @3, List 3, Next no, Next no, Var 1, Close, Close, Halt, no:, Close, @9, Halt", s, isVertex(3))
	wantAnswer(t, "All, Var 0, Around, Close, Close, 1, Halt", s, isFault(api.FaultVertex))
}

// The innermost round goes on, and each is at its own vertex.
func TestRoundsWithin(t *testing.T) {
	s := digits(t)
	for variable, want := range []int{6, 5, 4, 3} {
		wantAnswer(t, fmt.Sprintf("0, @6, List 1, a:, Next done, @5, List 1, b:, Next a, @4, List 1, c:, Next b, @3, List 1, d:, Next c, Var %d, Call 8, Add, Jump d, done:, Halt", variable), s, isInt(want))
	}
	two := "0, Named few, a:, Next done, %s, b:, Next a, 100, Mul, Var 0, Call 8, 10, Mul, Add, Var 1, Call 8, Add, %s, done:, Halt"
	for x, want := range map[[2]string]int{
		{"@7, Around", "Jump b"}: 323762678287, {"@7, Around", "Close, Jump a"}: 326282, {"@7, Around", "Close, Close, Jump done"}: 32, {"Named few", "Jump b"}: 333638636668838688, {"Var 0, List 1", "Jump b"}: 336688, {"@1, Var 0, List 2", "Next a, Jump b"}: 316181, {"Named many", "Jump b"}: 0,
	} {
		wantAnswer(t, fmt.Sprintf(two, x[0], x[1]), s, isInt(want))
	}
}

// Where it leads a round is closed, and behind it there it is not: and nowhere else is a round closed but by OpClose.
func TestNextAndClose(t *testing.T) {
	s := digits(t)
	wantRan(t, read("Named few, again:, Next done, Jump again, done:, 7, Halt"), s, isInt(7), 10, 1)
	wantRan(t, read("Named many, again:, Next done, Jump again, done:, 7, Halt"), s, isInt(7), 4, 1)
	wantRan(t, read("Named few, Next done, Close, 8, Halt, done:, 7, Halt"), s, isInt(8), 5, 1)
	wantRan(t, read("Named many, Next done, Close, 8, Halt, done:, 7, Halt"), s, isInt(7), 4, 1)
	wantRan(t, read("Named few, Next done, Next done, Next done, Next done, Close, 8, Halt, done:, 7, Halt"), s, isInt(7), 7, 1)
	wantRan(t, read("Named few, Next done, Next done, Next done, Var 0, Close, Call 8, Halt, done:, 7, Halt"), s, isInt(8), 8, 1)
	wantRan(t, read("All, Close, All, Close, All, Close, All, Close, All, Close, 1, Halt"), s, isInt(1), 12, 1)
	wantRan(t, read("All, All, All, All, Close, Close, Close, Close, 1, Halt"), s, isInt(1), 10, 1)
}

// A round has what there was when it was opened, whatever is done to the store then.
func TestRoundsStay(t *testing.T) {
	const counting = "0, %s, again:, Next done, 1, Add, Jump again, done:, Halt"
	for opens, want := range map[string]int{"All": 123456789, "Named few": 368, "@4, Around": 149, "@8, @2, List 2": 28} {
		opened := len(read("0, " + opens).Words)
		for behind := range 20 {
			s := digits(t)
			tells, counts := begun(t, read(fmt.Sprintf(telling, opens)), s), begun(t, read(fmt.Sprintf(counting, opens)), s)
			tells.Step(opened + behind)
			counts.Step(opened + behind)
			s.AddVertex(0, 0)
			s.AddVertex(77, 7)
			s.AddEdge(50, 4, 77, 0)
			s.Put("few", 1)
			s.Take("few", 8)
			s.DropEdge(0)
			if !tells.Step(1000) || tells.Answer() != isInt(want) {
				t.Errorf("%s, changed behind %d: %v", opens, behind, tells.Answer())
			}
			s.DropSet("few")
			for _, x := range s.Edges() {
				s.DropEdge(x.ID)
			}
			for id := range 10 {
				s.DropVertex(id)
			}
			if !counts.Step(1000) || counts.Answer() != isInt(len(fmt.Sprint(want))) {
				t.Errorf("%s, changed behind %d: %v", opens, behind, counts.Answer())
			}
		}
	}
}
