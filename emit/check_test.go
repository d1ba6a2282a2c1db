package emit_test

import (
	"testing"

	"isthmus/api"
	"isthmus/code"
	"isthmus/emit"
	"isthmus/plan"
)

// emitted is what Emit answers of a plan, held to the plain way, and to the chapter's theorem.
func emitted(t *testing.T, p api.Plan) (api.Code, api.Errno) {
	t.Helper()
	got, err := emit.Emit(p)
	if err != api.OK && !sameCode(got, api.Code{}) {
		t.Fatalf("%d with %s", err, brief(got))
	}
	if !plan.Right(p) {
		if err != api.ErrPlanForm {
			t.Fatalf("%d of %s", err, told(p))
		}
		return got, err
	}
	want := plainCode(p)
	limits, wrong := lookOver(want)
	if wrong != nil || limits.Kind != plan.Kind(p) || limits.Rounds > within(p.Root) {
		t.Fatalf("%s: %v, %v; %s", told(p), wrong, limits, brief(want))
	}
	if len(want.Words) > 32768 || limits.Stack > 1024 {
		if err != api.ErrEmitLong {
			t.Fatalf("%d of %s: %d words, %d values", err, told(p), len(want.Words), limits.Stack)
		}
		return got, err
	}
	if err != api.OK || !sameCode(got, want) {
		t.Fatalf("%s: %d, %s; wanted %s", told(p), err, brief(got), brief(want))
	}
	holdTheorem(t, p, got)
	return got, err
}

// holdTheorem holds E2 of a plan's code.
func holdTheorem(t *testing.T, p api.Plan, c api.Code) {
	t.Helper()
	if !code.Right(c) {
		t.Fatalf("%s: not right: %s", told(p), brief(c))
	}
	for i, word := range c.Words {
		op, to, b := fields(word)
		switch op {
		case api.OpFetch:
			to = b
			fallthrough
		case api.OpJump, api.OpFalse, api.OpTrue, api.OpNext:
			if to >= len(c.Words) {
				t.Fatalf("%s: the word %d leads to %d: %s", told(p), i, to, brief(c))
			}
		}
	}
	if most := 8*countParts(p.Root) + len(p.Cells)*countKind(p.Root, api.EQuant) + 1; len(c.Words) > most {
		t.Fatalf("%s: %d words", told(p), len(c.Words))
	}
}

// within is how many quantifiers stand in one another.
func within(n api.Node) int {
	most := 0
	for _, kid := range n.Kids {
		most = max(most, within(kid))
	}
	return most + truth(n.Kind == api.EQuant)
}

func countKind(n api.Node, kind int) int {
	many := 0
	each(&n, func(x *api.Node) { many += truth(x.Kind == kind) })
	return many
}

// brief is code as a message has room for it.
func brief(c api.Code) string {
	text := written(c)
	return text[:min(len(text), 900)]
}

// wantCode holds both ways to what is said of a plan.
func wantCode(t *testing.T, p api.Plan, want string) {
	t.Helper()
	if got, err := emitted(t, p); err != api.OK || written(got) != want {
		t.Errorf("%s: %d, %s; wanted %s", told(p), err, brief(got), want)
	}
}

// wantText holds them to what is said of a query.
func wantText(t *testing.T, query, want string) {
	t.Helper()
	wantCode(t, planOf(t, query), want)
}

// wantError holds them to an error.
func wantError(t *testing.T, p api.Plan, want api.Errno) {
	t.Helper()
	if _, err := emitted(t, p); err != want {
		t.Errorf("%d of %s; wanted %d", err, told(p), want)
	}
}
