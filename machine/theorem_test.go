package machine_test

import (
	"testing"

	"isthmus/api"
	"isthmus/machine"
)

// However the steps are cut, all that is told in the end is the same.
func TestM4Cuts(t *testing.T) {
	next := numbers()
	l := &layer{next: next}
	graphs := drawnGraphs(t, 20)
	for i := range 800 {
		c, s := l.flow(3+i%60), graphs[next(len(graphs))]
		p := newPlain(c, s)
		p.run(400)
		for _, most := range []int{1, 3, 20, 500} {
			m := begun(t, c, s)
			for left := 400; left > 0; {
				n := min(next(most+1), left)
				left -= n
				m.Step(n)
				m.Step(-n)
			}
			same(t, m, m.Step(0), p)
		}
	}
}

// With less fuel than is needed a run ends as well, having done as many steps as there was fuel; with more it is worth the same.
func TestM4Fuel(t *testing.T) {
	next := numbers()
	l := &layer{next: next}
	graphs := drawnGraphs(t, 20)
	for i := range 500 {
		c, s := l.flow(3+i%60), graphs[next(len(graphs))]
		last := newPlain(c, s)
		last.run(150)
		for fuel := range last.steps + 3 {
			want, steps := last.answer, last.steps
			if fuel < last.steps || !last.ended {
				want, steps = isFault(api.FaultFuel), fuel
			}
			if a, n, e := machine.Run(c, s, fuel); a != want || n != steps || e != api.OK {
				t.Fatalf("with %d: %v %d %d; wanted %v %d of %s", fuel, a, n, e, want, steps, written(c))
			}
			if !last.ended && fuel == last.steps {
				break
			}
		}
	}
}

// A store stays as it is: whatever is asked of it, or done to it later, answers as if nothing had run.
func TestM4StoreStays(t *testing.T) {
	next := numbers()
	l, a := &layer{next: next}, asker{next}
	for round := range 12 {
		s, twin := docGraph(t), docGraph(t)
		for i := range 60 {
			for range 3 {
				machine.Run(l.flow(3+next(60)), s, next(500))
				begun(t, codeOf(t, a.of(1+i%3, 3, 0)), s).Step(next(100))
			}
			alter(t, next, s, twin)
			if i%10 == round%10 && everything(s) != everything(twin) {
				t.Fatalf("behind %d changes: %s, not %s", i, everything(s), everything(twin))
			}
		}
		if everything(s) != everything(twin) {
			t.Fatal("another graph")
		}
	}
}

// The store may change between steps: each step asks it as it is then.
func TestM2StoreChanges(t *testing.T) {
	next := numbers()
	l, a := &layer{next: next}, asker{next}
	graphs := drawnGraphs(t, 60)
	seen := tally{}
	for i := range 3000 {
		s := graphs[next(len(graphs))]
		c := l.flow(3 + i%60)
		if i%2 == 0 {
			c = codeOf(t, a.of(1+i/2%3, 4, 0))
		}
		m, p := begun(t, c, s), newPlain(c, s)
		for !p.ended && p.steps < 200 {
			n := next(12)
			p.run(n)
			same(t, m, m.Step(n), p)
			alter(t, next, s)
			p.facts = factsOf(s)
		}
		seen.take(p)
	}
	seen.want(t, 50, 0, api.FaultEmpty, api.FaultFuel, api.FaultSet, api.FaultVertex)
}

// What ran ahead, on the same store or another one, tells in no later run.
func TestM3NothingIsKept(t *testing.T) {
	next := numbers()
	l := &layer{next: next}
	graphs := drawnGraphs(t, 5)
	var codes []api.Code
	var answers []api.Answer
	for i := range 200 {
		c := l.flow(3 + i%60)
		a, _, _ := machine.Run(c, graphs[i%7], 300)
		codes, answers = append(codes, c), append(answers, a)
	}
	for range 1000 {
		i := next(len(codes))
		if a, _, e := machine.Run(codes[i], graphs[i%7], 300); a != answers[i] || e != api.OK {
			t.Fatalf("%v, and then %v of %s", answers[i], a, written(codes[i]))
		}
	}
}
