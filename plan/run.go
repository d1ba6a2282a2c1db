package plan

import (
	"isthmus/api"
	"isthmus/ask"
	"isthmus/reckon"
	"isthmus/store"
)

// run is a plan while it is asked.
type run struct {
	store  *store.Store
	budget int
	asked  int
	fault  int                // that ended it
	at     [api.MaxQuants]int // of each quantifier around what is asked: its vertex
	levels []int              // of each cell: the plan's Cells
	cells  []content
}

// content is what a cell keeps.
type content struct {
	full bool
	n    int
}

func newRun(s *store.Store, levels []int, budget int) *run {
	budget = min(max(budget, 0), api.MaxFuel)
	return &run{store: s, budget: budget, levels: levels, cells: make([]content, len(levels))}
}

// end is what is answered where a fault ends all.
func (r *run) end(fault int) (int, bool) {
	r.fault = fault
	return 0, false
}

// told is what was reckoned, unless that was a fault.
func (r *run) told(n, fault int) (int, bool) {
	if fault != reckon.NoFault {
		return r.end(fault)
	}
	return n, true
}

// pays counts a part that is to be asked, if the budget has room for it.
func (r *run) pays() bool {
	if r.asked >= r.budget {
		r.end(api.FaultFuel)
		return false
	}
	r.asked++
	return true
}

// worth asks a part: what it is worth, or false behind a fault.
func (r *run) worth(p part) (int, bool) {
	if !r.pays() {
		return 0, false
	}
	switch x := p.(type) {
	case constant:
		return x.n, true
	case vertex:
		return r.told(ask.Vertex(r.store, x.id))
	case variable:
		return r.at[x.number], true
	case operation:
		of, ok := r.worths(x.kids)
		if !ok {
			return 0, false
		}
		return r.told(reckon.Worth(x.which, of[0], of[len(of)-1]))
	case connective:
		left, ok := r.worth(x.left)
		if !ok || left == x.settles {
			return left, ok
		}
		return r.worth(x.right)
	case choice:
		return r.chosen(x)
	case call:
		of, ok := r.worths(x.kids)
		if !ok {
			return 0, false
		}
		return r.told(ask.Call(r.store, x.which, of))
	case quantifier:
		return r.quantified(x)
	case cell:
		return r.kept(x)
	}
	return 0, false // a set is asked by its members
}

// worths asks parts one by one.
func (r *run) worths(parts []part) ([]int, bool) {
	var all []int
	for _, p := range parts {
		n, ok := r.worth(p)
		if !ok {
			return nil, false
		}
		all = append(all, n)
	}
	return all, true
}

func (r *run) chosen(c choice) (int, bool) {
	is, ok := r.worth(c.question)
	if !ok {
		return 0, false
	}
	if is == 1 {
		return r.worth(c.yes)
	}
	return r.worth(c.no)
}

func (r *run) kept(c cell) (int, bool) {
	if has := r.cells[c.number]; has.full {
		return has.n, true
	}
	n, ok := r.worth(c.kid)
	if ok {
		r.cells[c.number] = content{full: true, n: n}
	}
	return n, ok
}

func (r *run) quantified(q quantifier) (int, bool) {
	ids, ok := r.members(q.set)
	if !ok {
		return 0, false
	}
	t := newTally(q.which)
	for _, id := range ids {
		r.goOn(q, id)
		n, ok := r.worth(q.body)
		if !ok {
			return 0, false
		}
		if fault := t.take(n); fault != reckon.NoFault {
			return r.end(fault)
		}
		if t.settled() {
			break
		}
	}
	return r.told(t.total())
}

// goOn moves a quantifier to a vertex: what hangs on it is kept no longer.
func (r *run) goOn(q quantifier, id int) {
	r.at[q.around] = id
	for number, level := range r.levels {
		if level == q.around+1 {
			r.cells[number] = content{}
		}
	}
}

// members asks a set: its vertices, rising, or false behind a fault.
func (r *run) members(set part) ([]int, bool) {
	if !r.pays() {
		return nil, false
	}
	switch x := set.(type) {
	case allSet:
		return ask.All(r.store), true
	case namedSet:
		return r.found(ask.Named(r.store, x.name))
	case aroundSet:
		id, ok := r.worth(x.kid)
		if !ok {
			return nil, false
		}
		return r.found(ask.Around(r.store, id))
	case listSet:
		ids, ok := r.worths(x.kids)
		return ask.List(ids), ok
	}
	return nil, false // no other part is a set
}

// found is the vertices of a set, unless there was a fault.
func (r *run) found(ids []int, fault int) ([]int, bool) {
	if fault != reckon.NoFault {
		r.end(fault)
		return nil, false
	}
	return ids, true
}
