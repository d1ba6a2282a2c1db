package share_test

import (
	"fmt"
	"math/big"
	"slices"

	"isthmus/api"
	"isthmus/store"
)

// spot is a part with a name that it has in a plan and in what comes of that, too: the way to it, but for new cells. What is in a cell that was there is named by the way from that on, as such parts are one part, wherever they stand.
type spot struct {
	n    api.Node
	name string
	kids []*spot
}

// spotsOf is a part, and the parts in it, of a plan that had so many cells ahead.
func spotsOf(n api.Node, had int, name string) *spot {
	s := &spot{n: n, name: name}
	for i, kid := range n.Kids {
		inner := fmt.Sprint(name, ".", i)
		if n.Kind == api.ECell && n.N < had {
			inner = fmt.Sprint("cell", n.N)
		} else if n.Kind == api.ECell {
			inner = name
		}
		s.kids = append(s.kids, spotsOf(kid, had, inner))
	}
	return s
}

// fault is what a plain asker gives up with.
type fault int

// asker reckons the worth of a plan by chapter 14's words, and counts how often each part was asked.
type asker struct {
	store  *store.Store
	levels []int
	cells  map[int]int // the full ones
	asked  int
	calls  map[string]int
}

// askPlainly is the worth of a right plan that had so many cells ahead; how many parts were asked; and how often each call.
func askPlainly(p api.Plan, had int, s *store.Store) (worth, end, asked int, calls map[string]int) {
	a := &asker{store: s, levels: p.Cells, cells: map[int]int{}, calls: map[string]int{}}
	defer func() {
		if r := recover(); r != nil {
			worth, end, asked, calls = 0, int(r.(fault)), a.asked, a.calls
		}
	}()
	worth = a.worth(spotsOf(p.Root, had, ""), nil)
	return worth, 0, a.asked, a.calls
}

func (a *asker) ask(s *spot) {
	if a.asked == 1000000 {
		panic(fault(api.FaultFuel))
	}
	a.asked++
	if s.n.Kind == api.ECall {
		a.calls[s.name]++
	}
}

func number(is bool) int {
	if is {
		return 1
	}
	return 0
}

// worth is that of a part where the quantifiers around it are at these vertices.
func (a *asker) worth(s *spot, at []int) int {
	a.ask(s)
	kid := func(i int) int { return a.worth(s.kids[i], at) }
	switch s.n.Kind {
	case api.EInt, api.EBool:
		return s.n.N
	case api.EVertex:
		if !a.store.Has(s.n.N) {
			panic(fault(api.FaultVertex))
		}
		return s.n.N
	case api.EVar:
		return at[s.n.N]
	case api.EAnd:
		if kid(0) == 0 {
			return 0
		}
		return kid(1)
	case api.EOr:
		if kid(0) == 1 {
			return 1
		}
		return kid(1)
	case api.EIf:
		return kid(2 - kid(0))
	case api.EQuant:
		return a.quantified(s, at)
	case api.ECell:
		if _, full := a.cells[s.n.N]; !full {
			a.cells[s.n.N] = kid(0)
		}
		return a.cells[s.n.N]
	}
	var kids []int
	for i := range s.kids {
		kids = append(kids, kid(i))
	}
	if s.n.Kind == api.ECall {
		return a.called(s.n.N, kids[0], kids[len(kids)-1])
	}
	return reckoned(s.n.Kind, kids[0], kids[len(kids)-1])
}

// reckoned is done with numbers without an end, and held to 64 bits then.
func reckoned(kind, left, right int) int {
	switch kind {
	case api.ENot:
		return number(left == 0)
	case api.EEq:
		return number(left == right)
	case api.ENe:
		return number(left != right)
	case api.ELess:
		return number(left < right)
	case api.EAtMost:
		return number(left <= right)
	}
	if (kind == api.EDiv || kind == api.ERem) && right == 0 {
		panic(fault(api.FaultZero))
	}
	x, y := big.NewInt(int64(left)), big.NewInt(int64(right))
	switch kind {
	case api.ENeg:
		x.Neg(x)
	case api.EAdd:
		x.Add(x, y)
	case api.ESub:
		x.Sub(x, y)
	case api.EMul:
		x.Mul(x, y)
	case api.EDiv:
		x.Quo(x, y)
	case api.ERem:
		x.Rem(x, y)
	}
	if !x.IsInt64() {
		panic(fault(api.FaultOverflow))
	}
	return int(x.Int64())
}

func (a *asker) called(which, u, v int) int {
	var n int
	var is bool
	var e api.Errno
	switch which {
	case api.CallConnected:
		is, e = a.store.Connected(u, v)
		n = number(is)
	case api.CallBlock:
		is, e = a.store.Block(u, v)
		n = number(is)
	case api.CallBottleneck:
		n, e = a.store.Bottleneck(u, v)
	case api.CallSize:
		n, e = a.store.Size(u)
	case api.CallTotal:
		n, e = a.store.Total(u)
	case api.CallLeast:
		n, e = a.store.Least(u)
	case api.CallMost:
		n, e = a.store.Most(u)
	case api.CallValue:
		n, e = a.store.Value(u)
	case api.CallDegree:
		n, e = a.store.Degree(u)
	case api.CallRep:
		n, e = a.store.Rep(u)
	}
	if e != api.OK {
		panic(fault(api.FaultEmpty))
	}
	return n
}

func (a *asker) members(s *spot, at []int) []int {
	a.ask(s)
	var ids []int
	switch s.n.Kind {
	case api.ESetAll:
		for _, v := range a.store.Vertices() {
			ids = append(ids, v.ID)
		}
	case api.ESetName:
		list, e := a.store.Members(s.n.Name)
		if e != api.OK {
			panic(fault(api.FaultSet))
		}
		ids = list
	case api.ESetAround:
		ids, _ = a.store.Around(a.worth(s.kids[0], at))
	case api.ESetList:
		for _, kid := range s.kids {
			ids = append(ids, a.worth(kid, at))
		}
	}
	slices.Sort(ids)
	return slices.Compact(ids)
}

// quantified goes through a set; of all bodies but those behind the one that ends it there is a list then.
func (a *asker) quantified(s *spot, at []int) int {
	var bodies []int
	sum := 0
	for _, id := range a.members(s.kids[0], at) {
		for i, level := range a.levels {
			if level == len(at)+1 {
				delete(a.cells, i)
			}
		}
		body := a.worth(s.kids[1], append(slices.Clone(at), id))
		bodies = append(bodies, body)
		if s.n.N == api.QuantAll && body == 0 || s.n.N == api.QuantSome && body == 1 {
			break
		}
		if s.n.N == api.QuantSum {
			sum = reckoned(api.EAdd, sum, body)
		}
	}
	switch s.n.N {
	case api.QuantAll:
		return number(!slices.Contains(bodies, 0))
	case api.QuantSome:
		return number(slices.Contains(bodies, 1))
	case api.QuantCount:
		return len(slices.DeleteFunc(bodies, func(b int) bool { return b == 0 }))
	case api.QuantSum:
		return sum
	}
	if len(bodies) == 0 {
		panic(fault(api.FaultEmpty))
	}
	if s.n.N == api.QuantMin {
		return slices.Min(bodies)
	}
	return slices.Max(bodies)
}
