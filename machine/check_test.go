package machine_test

import (
	"testing"

	"isthmus/api"
	"isthmus/guard"
	"isthmus/machine"
	"isthmus/store"
)

// begun is a machine of code that must be taken.
func begun(t *testing.T, c api.Code, s *store.Store) *machine.Machine {
	t.Helper()
	m, e := machine.New(c, s)
	if e != api.OK || m == nil {
		t.Fatalf("%d of %s", e, written(c))
	}
	return m
}

// same holds what a machine tells to the plain way.
func same(t *testing.T, m *machine.Machine, ended bool, p *plain) {
	t.Helper()
	if ended != p.ended || m.Answer() != p.answer || m.Steps() != p.steps || m.Depth() != p.depth {
		t.Fatalf("%v %v, %d steps, depth %d; wanted %v %v, %d, %d of %s", ended, m.Answer(), m.Steps(), m.Depth(), p.ended, p.answer, p.steps, p.depth, written(p.code))
	}
}

// ran runs code, at most so many steps, one by one, and holds it to the plain way behind each; and so Run, with that fuel and with just enough.
func ran(t *testing.T, c api.Code, s *store.Store, most int) *plain {
	t.Helper()
	m, p := begun(t, c, s), newPlain(c, s)
	same(t, m, m.Step(0), p)
	for !p.ended && p.steps < most {
		p.run(1)
		same(t, m, m.Step(1), p)
	}
	if limits, _, _ := guard.Verify(c); m.Depth() > limits.Stack {
		t.Fatalf("depth %d, not %d: %s", m.Depth(), limits.Stack, written(c))
	}
	wantRun(t, c, s, most, p)
	wantRun(t, c, s, p.steps, p)
	return p
}

// wantRun holds Run to what a plain machine came to with that fuel.
func wantRun(t *testing.T, c api.Code, s *store.Store, fuel int, p *plain) {
	t.Helper()
	want := p.answer
	if !p.ended {
		want = isFault(api.FaultFuel)
	}
	if a, steps, e := machine.Run(c, s, fuel); a != want || steps != p.steps || e != api.OK {
		t.Fatalf("with %d: %v, %d steps, %d; wanted %v, %d of %s", fuel, a, steps, e, want, p.steps, written(c))
	}
}

// wantRan holds both ways to what is said of code that ends.
func wantRan(t *testing.T, c api.Code, s *store.Store, want api.Answer, steps, depth int) {
	t.Helper()
	p := ran(t, c, s, 5000)
	if !p.ended || p.answer != want || p.steps != steps || p.depth != depth {
		t.Errorf("%v %v, %d steps, depth %d; wanted %v, %d, %d of %s", p.ended, p.answer, p.steps, p.depth, want, steps, depth, written(c))
	}
}

// wantAnswer is wantRan of text, whatever the steps.
func wantAnswer(t *testing.T, text string, s *store.Store, want api.Answer) {
	t.Helper()
	if p := ran(t, read(text), s, 5000); !p.ended || p.answer != want {
		t.Errorf("%s: %v %v; wanted %v", text, p.ended, p.answer, want)
	}
}

func isInt(n int) api.Answer { return api.Answer{Kind: api.KindInt, N: n} }

func isBool(n int) api.Answer { return api.Answer{Kind: api.KindBool, N: n} }

func isVertex(n int) api.Answer { return api.Answer{Kind: api.KindVertex, N: n} }

func isFault(n int) api.Answer { return api.Answer{Fault: n} }
