package fold_test

import (
	"math"
	"math/big"
	"slices"
	"testing"

	"isthmus/api"
	"isthmus/fold"
	"isthmus/plan"
)

// Whatever stands for one of these in a rule: it is the same wherever the rule names it.
var (
	this = api.Node{Kind: -1}
	that = api.Node{Kind: -2}
)

// rule is one of the chapter's: what a part is like, and what it becomes; or, where that is reckoned, a function of the part.
type rule struct {
	like, becomes api.Node
	reckons       func(api.Node) (api.Node, bool)
}

// theRules are the chapter's, in its order; one line of its table may be several here.
func theRules() []rule {
	yes, no, nought, one := boolean(1), boolean(0), integer(0), integer(1)
	none := of(api.ESetList)
	return []rule{
		{reckons: negated},
		{like: of(api.ENot, yes), becomes: no},
		{like: of(api.ENot, no), becomes: yes},
		{like: of(api.ENot, of(api.ENot, this)), becomes: this},
		{reckons: numbersOf},
		{like: of(api.EAdd, nought, this), becomes: this},
		{like: of(api.EAdd, this, nought), becomes: this},
		{like: of(api.ESub, this, nought), becomes: this},
		{like: of(api.EMul, one, this), becomes: this},
		{like: of(api.EMul, this, one), becomes: this},
		{like: of(api.EDiv, this, one), becomes: this},
		{reckons: comparison},
		{like: of(api.EAnd, yes, this), becomes: this},
		{like: of(api.EAnd, no, this), becomes: no},
		{like: of(api.EAnd, this, yes), becomes: this},
		{like: of(api.EOr, yes, this), becomes: yes},
		{like: of(api.EOr, no, this), becomes: this},
		{like: of(api.EOr, this, no), becomes: this},
		{like: of(api.EIf, yes, this, that), becomes: this},
		{like: of(api.EIf, no, this, that), becomes: that},
		{like: quant(api.QuantAll, none, this), becomes: yes},
		{like: quant(api.QuantSome, none, this), becomes: no},
		{like: quant(api.QuantCount, none, this), becomes: nought},
		{like: quant(api.QuantSum, none, this), becomes: nought},
		{like: quant(api.QuantAll, all, yes), becomes: yes},
		{like: quant(api.QuantSome, all, no), becomes: no},
		{like: quant(api.QuantCount, all, no), becomes: nought},
		{reckons: keptConstant},
	}
}

func negated(n api.Node) (api.Node, bool) {
	if n.Kind != api.ENeg || n.Kids[0].Kind != api.EInt || n.Kids[0].N == math.MinInt {
		return n, false
	}
	return integer(-n.Kids[0].N), true
}

// numbersOf reckons with numbers that have no end, and looks then whether there are 64 bits enough.
func numbersOf(n api.Node) (api.Node, bool) {
	if len(n.Kids) != 2 || n.Kids[0].Kind != api.EInt || n.Kids[1].Kind != api.EInt {
		return n, false
	}
	a, b := big.NewInt(int64(n.Kids[0].N)), big.NewInt(int64(n.Kids[1].N))
	if b.Sign() == 0 && (n.Kind == api.EDiv || n.Kind == api.ERem) {
		return n, false
	}
	switch n.Kind {
	case api.EAdd:
		a.Add(a, b)
	case api.ESub:
		a.Sub(a, b)
	case api.EMul:
		a.Mul(a, b)
	case api.EDiv:
		a.Quo(a, b)
	case api.ERem:
		a.Rem(a, b)
	default:
		return n, false
	}
	return integer(int(a.Int64())), a.IsInt64()
}

func comparison(n api.Node) (api.Node, bool) {
	if len(n.Kids) != 2 || n.Kids[0].Kind != n.Kids[1].Kind || n.Kids[0].Kind != api.EInt && n.Kids[0].Kind != api.EBool {
		return n, false
	}
	a, b := n.Kids[0].N, n.Kids[1].N
	is, known := map[int]bool{api.EEq: a == b, api.ENe: a != b, api.ELess: a < b, api.EAtMost: a <= b}[n.Kind]
	return boolean(map[bool]int{true: 1}[is]), known
}

func keptConstant(n api.Node) (api.Node, bool) {
	if n.Kind != api.ECell || n.Kids[0].Kind != api.EInt && n.Kids[0].Kind != api.EBool {
		return n, false
	}
	return n.Kids[0], true
}

// alike asks whether a node is like a rule's, and finds what stands for what.
func alike(like, n api.Node, found map[int]api.Node) bool {
	if like.Kind < 0 {
		found[like.Kind] = n
		return true
	}
	return like.Kind == n.Kind && like.N == n.N && like.Name == n.Name && slices.EqualFunc(like.Kids, n.Kids, func(l, kid api.Node) bool { return alike(l, kid, found) })
}

// done is what a rule makes of a node, if it holds.
func (r rule) done(n api.Node) (api.Node, bool) {
	if r.reckons != nil {
		return r.reckons(n)
	}
	found := map[int]api.Node{}
	if !alike(r.like, n, found) {
		return n, false
	}
	if r.becomes.Kind < 0 {
		return found[r.becomes.Kind], true
	}
	return r.becomes, true
}

// plainly folds a node by the chapter's words: its kids first, then the first rule that holds, once.
func plainly(n api.Node, rules []rule) api.Node {
	n = api.Node{Kind: n.Kind, N: n.N, Name: n.Name, Kids: slices.Clone(n.Kids)}
	for i := range n.Kids {
		n.Kids[i] = plainly(n.Kids[i], rules)
	}
	for _, r := range rules {
		if other, holds := r.done(n); holds {
			return other
		}
	}
	return n
}

// folded is what Fold makes of a plan, which must be what the plain way does; an error, if the plan is not right.
func folded(t *testing.T, p api.Plan) (api.Plan, bool) {
	t.Helper()
	got, err := fold.Fold(p)
	if !plan.Right(p) {
		if err != api.ErrPlanForm || spelled(got.Root) != spelled(api.Node{}) || len(got.Cells) != 0 {
			t.Fatalf("Fold of a wrong plan: %d, %s", err, told(got))
		}
		return got, false
	}
	want := made(plainly(p.Root, theRules()), p.Cells...)
	if err != api.OK || spelled(got.Root) != spelled(want.Root) || !slices.Equal(got.Cells, want.Cells) {
		t.Fatalf("%s became (%d) %s, not %s", told(p), err, told(got), told(want))
	}
	return got, true
}

// wantFolded holds both ways to what is said of a plan.
func wantFolded(t *testing.T, from, to api.Plan) {
	t.Helper()
	got, is := folded(t, from)
	if !is || !plan.Same(got, to) || !slices.Equal(got.Cells, to.Cells) {
		t.Errorf("%s became %s, not %s", told(from), told(got), told(to))
	}
}

// wantStays holds a plan to itself.
func wantStays(t *testing.T, p api.Plan) {
	t.Helper()
	wantFolded(t, p, p)
}
