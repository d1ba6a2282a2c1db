package machine_test

import (
	"fmt"
	"math"
	"slices"
	"testing"

	"isthmus/api"
	"isthmus/machine"
	"isthmus/store"
)

// forever never ends.
const forever = "true, True 0, 1, Halt"

// The chapter's examples, and those of DOC.md that tell code's steps.
func TestExamples(t *testing.T) {
	s := docGraph(t)
	three := read("1, 2, Add, Halt")
	wantRan(t, three, s, isInt(3), 4, 2)
	for _, fuel := range []int{3, 0} {
		if a, steps, e := machine.Run(three, s, fuel); a != isFault(api.FaultFuel) || steps != fuel || e != api.OK {
			t.Errorf("with %d: %v %d %d", fuel, a, steps, e)
		}
	}
	wantRan(t, read("Named few, 0, Next 10, Var 0, @1, Eq 0 3, False 2, 1, Add, Jump 2, Halt"), s, isInt(1), 22, 3)
	wantRan(t, read("@9, Halt"), s, isFault(api.FaultVertex), 1, 0)
	wantRan(t, read("@1, Call 4, @2, Call 4, Add, @3, Call 4, Add, Halt"), s, isInt(12), 9, 2)
}

// New refuses a store that there is not, and then whatever the guard refuses.
func TestM1Errors(t *testing.T) {
	s := docGraph(t)
	var none *store.Store
	for text, want := range map[string]api.Errno{
		"1, Halt": api.OK, "Halt": api.ErrGuardStack, "1": api.ErrGuardJump, "1, Jump 0": api.ErrGuardMeet, "true, Keep, Halt": api.ErrGuardCell, "Jump 0": api.ErrGuardStack, "Var 0, Halt": api.ErrGuardStack, "Var 4, Halt": api.ErrCodeForm, "Fetch 3 1, Halt": api.ErrCodeForm,
		"1*1024, Some": api.ErrGuardStack, "1*1025": api.ErrGuardStack, "All*5": api.ErrGuardStack, "true, True 9, 1, Halt": api.ErrGuardJump, "true, False 4, 1, Halt, true, Halt": api.ErrGuardMeet,
	} {
		wantRefused(t, read(text), s, want)
		wantRefused(t, read(text), none, api.ErrArg)
	}
	for _, c := range []api.Code{{}, {Words: []uint64{math.MaxUint64}}, {Words: make([]uint64, 32769)}, {Words: []uint64{word(api.OpConst, 0, api.KindBool), 0}, Consts: []int{2}}, {Words: []uint64{word(api.OpVertex, 0, 0), 0}, Consts: []int{-1}}, {Words: read("1, Halt").Words, Consts: []int{1}, Names: []string{"all"}}, {Words: read("1, Halt").Words, Consts: []int{1}, Cells: []int{4}}} {
		wantRefused(t, c, s, api.ErrCodeForm)
		wantRefused(t, c, none, api.ErrArg)
	}
}

// wantRefused holds New and Run to an error, or to none.
func wantRefused(t *testing.T, c api.Code, s *store.Store, want api.Errno) {
	t.Helper()
	m, e := machine.New(c, s)
	if e != want || (m == nil) != (want != api.OK) {
		t.Errorf("%d, wanted %d of %d words", e, want, len(c.Words))
	}
	if a, steps, e := machine.Run(c, s, 100); e != want || want != api.OK && (a != api.Answer{} || steps != 0) {
		t.Errorf("%v, %d, %d, wanted %d of %d words", a, steps, e, want, len(c.Words))
	}
}

// At its beginning a machine tells nothing; and behind its end it stays as it is.
func TestM2BeginningAndEnd(t *testing.T) {
	s := docGraph(t)
	for text, want := range map[string]api.Answer{"7, Halt": isInt(7), "true, Halt": isBool(1), "false, Halt": isBool(0), "@5, Halt": isVertex(5), "0, Halt": isInt(0), "1, 0, Div, Halt": isFault(api.FaultZero), "@9, Halt": isFault(api.FaultVertex)} {
		m := begun(t, read(text), s)
		for range 3 {
			if m.Step(0) || m.Answer() != (api.Answer{}) || m.Steps() != 0 || m.Depth() != 0 {
				t.Errorf("%s: %v %d %d", text, m.Answer(), m.Steps(), m.Depth())
			}
		}
		if !m.Step(5) {
			t.Errorf("%s: it goes on", text)
		}
		steps, depth := m.Steps(), m.Depth()
		for _, n := range []int{0, 1, 5, -1, math.MaxInt} {
			if !m.Step(n) || m.Answer() != want || m.Steps() != steps || m.Depth() != depth {
				t.Errorf("%s: %v %d %d", text, m.Answer(), m.Steps(), m.Depth())
			}
		}
	}
}

// As long as it goes on, it has no answer, however near the end is.
func TestM2NoAnswerAhead(t *testing.T) {
	m := begun(t, read("1, 2, Add, Halt"), docGraph(t))
	for i, depth := range []int{1, 2, 2} {
		if m.Step(1) || m.Answer() != (api.Answer{}) || m.Steps() != i+1 || m.Depth() != depth {
			t.Errorf("%d: %v %d %d", i, m.Answer(), m.Steps(), m.Depth())
		}
	}
	if !m.Step(1) || m.Answer() != isInt(3) || m.Steps() != 4 || m.Depth() != 2 {
		t.Errorf("%v %d %d", m.Answer(), m.Steps(), m.Depth())
	}
}

// A step's number counts as 0 below 0, and as 1000000 above; one behind the other they may be more.
func TestM2Numbers(t *testing.T) {
	m := begun(t, read(forever), docGraph(t))
	m.Step(1)
	many := 1
	for _, x := range [][2]int{{-1, 0}, {math.MinInt, 0}, {0, 0}, {1, 1}, {999999, 999999}, {1000000, 1000000}, {1000001, 1000000}, {1 << 40, 1000000}, {math.MaxInt, 1000000}, {-1000000, 0}, {7, 7}} {
		many += x[1]
		if m.Step(x[0]) || m.Steps() != many || m.Answer() != (api.Answer{}) || m.Depth() != 1 {
			t.Errorf("Step(%d): %d steps, not %d", x[0], m.Steps(), many)
		}
	}
}

func TestM3Fuel(t *testing.T) {
	s := docGraph(t)
	c := read("Named few, 0, Next 10, Var 0, @1, Eq 0 3, False 2, 1, Add, Jump 2, Halt")
	for fuel := -3; fuel < 30; fuel++ {
		p := newPlain(c, s)
		p.run(fuel)
		wantRun(t, c, s, fuel, p)
	}
	for _, fuel := range []int{22, 999999, 1000000, 1000001, 1 << 40, math.MaxInt} {
		if a, steps, e := machine.Run(c, s, fuel); a != isInt(1) || steps != 22 || e != api.OK {
			t.Errorf("with %d: %v %d %d", fuel, a, steps, e)
		}
	}
	for _, fuel := range []int{math.MinInt, -1, 0, 1, 2, 999999, 1000000, 1000001, 1 << 40, math.MaxInt} {
		if a, steps, e := machine.Run(read(forever), s, fuel); a != isFault(api.FaultFuel) || steps != min(max(fuel, 0), 1000000) || e != api.OK {
			t.Errorf("with %d: %v %d %d", fuel, a, steps, e)
		}
	}
}

// Code that ends with its last drop of fuel, and one that needs a step more than there can be.
func TestM3LastStep(t *testing.T) {
	s := newStore(t)
	for id := range 64 {
		s.AddVertex(id, id)
	}
	// Of 64 vertices the first rounds take 66 + 64 * (66 + 64 * (66 + 64 * 2)) steps, and the others 66 + 64 * (66 + 64 * 48): so there are 188 to come.
	rounds := "All, Next 8, All, Next 1, All, Next 3, Clear, Jump 5, All, Next 60, All, Next 9, Clear*47, Jump 11, "
	c, longer := read(rounds+"Clear*186, 7, Halt"), read(rounds+"Clear*187, 7, Halt")
	for _, x := range []struct {
		c           api.Code
		fuel, steps int
		want        api.Answer
	}{
		{c, 1000000, 1000000, isInt(7)}, {c, 1 << 40, 1000000, isInt(7)}, {c, 999999, 999999, isFault(api.FaultFuel)}, {longer, 1000000, 1000000, isFault(api.FaultFuel)}, {longer, 1000001, 1000000, isFault(api.FaultFuel)},
	} {
		if a, steps, e := machine.Run(x.c, s, x.fuel); a != x.want || steps != x.steps || e != api.OK {
			t.Errorf("%d words with %d: %v %d %d", len(x.c.Words), x.fuel, a, steps, e)
		}
	}
	m := begun(t, longer, s)
	if m.Step(1000000) || !m.Step(1) || m.Answer() != isInt(7) || m.Steps() != 1000001 {
		t.Errorf("%v %d", m.Answer(), m.Steps())
	}
}

// However much is on the stack, it is told.
func TestM2Depth(t *testing.T) {
	s := docGraph(t)
	for _, x := range []struct {
		text         string
		steps, depth int
	}{
		{"1, Halt", 2, 1}, {"1, 2, Add, 3, Add, Halt", 6, 2}, {"1, 2, 3, Add, Add, Halt", 6, 3}, {"1*1023, Add*1022, Halt", 2046, 1023}, {"1*1024, Add*1023, Halt", 2048, 1024}, {"@1, Call 4, Halt", 3, 1}, {"@1, @2, Call 2, Halt", 4, 2},
		{"1, Keep, Fetch 0 4, Halt, Add, Halt", 5, 2}, {"@1*7, List 7, Close, 1, Halt", 11, 7}, {"1, false, 2, Best, Some, Halt", 6, 3}, {"@9, Call 4, Halt", 1, 0}, {"1, 2, 0, Div, Add, Halt", 4, 3},
		{"false, True 4, 1, Halt, 2, 3, Add, Halt", 4, 1}, {"true, True 4, 1, Halt, 2, 3, Add, Halt", 6, 2}, {"7, Keep*32766, Halt", 32768, 1}, {"Jump 2, Halt, 7, Keep*32764, Jump 1", 32768, 1},
	} {
		if p := ran(t, read(x.text), s, 40000); !p.ended || p.steps != x.steps || p.depth != x.depth {
			t.Errorf("%s: %d steps, depth %d", x.text, p.steps, p.depth)
		}
	}
}

// roomy is a list with something behind its length.
func roomy[T any](l []T, behind T) []T {
	return append(slices.Clone(l), behind, behind, behind)[:len(l)]
}

// Nothing is kept of code: it may be written over while the machine runs; and nothing is written into it.
func TestM1NothingIsKept(t *testing.T) {
	s := docGraph(t)
	was := read("Named few, 0, Next 13, Fetch 2 6, @2, Keep 2, Call 4, Add, Clear, Var 0, Call 8, Add, Jump 2, 100, Mul, Halt")
	want := ran(t, was, s, 1000)
	for cut := range want.steps + 1 {
		c := api.Code{Words: roomy(was.Words, 77), Consts: roomy(was.Consts, 77), Names: roomy(was.Names, "behind"), Cells: roomy(was.Cells, 77)}
		m := begun(t, c, s)
		m.Step(cut)
		ends := fmt.Sprint(c.Words[len(c.Words):len(c.Words)+3], c.Consts[len(c.Consts):len(c.Consts)+3], c.Names[len(c.Names):len(c.Names)+3], c.Cells[len(c.Cells):len(c.Cells)+3])
		if !slices.Equal(c.Words, was.Words) || !slices.Equal(c.Consts, was.Consts) || !slices.Equal(c.Names, was.Names) || !slices.Equal(c.Cells, was.Cells) || ends != "[77 77 77] [77 77 77] [behind behind behind] [77 77 77]" {
			t.Fatalf("it was written into: %s, %s", written(c), ends)
		}
		for i := range c.Words {
			c.Words[i] = 0
		}
		for i := range c.Consts {
			c.Consts[i] = 9
		}
		c.Names[0], c.Cells[0], c.Cells[1], c.Cells[2] = "nobody", 9, 9, 9
		m.Step(1000)
		same(t, m, true, want)
	}
}

// The store that was handed in is the one that is asked, whatever it has become since.
func TestM1StoreIsKept(t *testing.T) {
	s := newStore(t)
	m := begun(t, read("@1, Call 8, @2, Call 8, Add, Named few, Close, Halt"), s)
	s.AddVertex(1, 10)
	s.AddVertex(2, 20)
	if m.Step(3) {
		t.Errorf("%v", m.Answer())
	}
	s.SetValue(2, 30)
	if m.Step(2) {
		t.Errorf("%v", m.Answer())
	}
	s.AddSet("few")
	if !m.Step(3) || m.Answer() != isInt(40) {
		t.Errorf("%v", m.Answer())
	}
}

// Machines know nothing of one another, on one store and on two.
func TestMachinesApart(t *testing.T) {
	next := numbers()
	s := docGraph(t)
	texts := []string{
		"Named few, 0, Next 10, Var 0, @1, Eq 0 3, False 2, 1, Add, Jump 2, Halt", "1, 2, Add, Halt", "Fetch 0 3, 7, Keep, Fetch 0 5, Halt, Add, Halt", "All, Next 7, Var 0, Around, Next 6, Jump 4, Jump 1, 1, Halt", "7, 0, Div, Halt",
	}
	var machines []*machine.Machine
	var plains []*plain
	for i := range 20 {
		c := read(texts[i%len(texts)])
		machines, plains = append(machines, begun(t, c, s)), append(plains, newPlain(c, s))
	}
	for range 2000 {
		i, n := next(len(machines)), next(4)
		plains[i].run(n)
		same(t, machines[i], machines[i].Step(n), plains[i])
	}
	for i, p := range plains {
		if !p.ended {
			t.Errorf("%d goes on", i)
		}
	}
}
