package guard_test

import (
	"math"

	"isthmus/api"
)

// kept is a cell of a plan that is drawn: what it keeps, and around how many it was drawn first.
type kept struct {
	kid                 api.Node
	kind, level, around int
}

// drawn draws plans.
type drawn struct {
	next  func(int) int
	cells int // of a hundred parts so many are in cells
	wild  int // of a hundred numbers so many are great ones
	wrong int // of a hundred parts so many are of whatever kind
	have  []kept
}

func drawing(cells, wild, wrong int) *drawn {
	return &drawn{next: numbers(), cells: cells, wild: wild, wrong: wrong}
}

// plan draws one of a kind.
func (d *drawn) plan(kind, deep int) api.Plan {
	d.have = nil
	p := api.Plan{Root: d.of(kind, deep, 0, 0)}
	for _, k := range d.have {
		p.Cells = append(p.Cells, k.level)
	}
	return p
}

// of draws a part of a kind, with so many quantifiers around it and, in all, about it.
func (d *drawn) of(kind, deep, around, within int) api.Node {
	if d.next(100) < d.wrong {
		kind = 1 + d.next(4)
	}
	if d.next(100) < d.cells {
		return d.cell(kind, deep, around, within)
	}
	if deep <= 0 {
		return d.leaf(kind, around)
	}
	kid := func(kind int) api.Node { return d.of(kind, deep-1-d.next(2), around, within) }
	switch d.next(7) {
	case 0:
		return d.leaf(kind, around)
	case 1:
		return of(api.EIf, kid(api.KindBool), kid(kind), kid(kind))
	case 2:
		return d.call(kind, kid)
	case 3, 4:
		if within < 4 && (kind == api.KindInt || kind == api.KindBool) {
			return d.quantifier(kind, deep, around, within)
		}
	}
	return d.operator(kind, kid)
}

// cell draws a part in a cell: in one that there is, if there is one of that kind, or in a new one.
func (d *drawn) cell(kind, deep, around, within int) api.Node {
	for range 3 {
		if len(d.have) == 0 || d.next(2) == 0 {
			break
		}
		i := d.next(len(d.have))
		k := d.have[i]
		if k.kind == kind && k.around == around && k.level <= around || d.next(100) < d.wrong {
			return cell(i, copied(k.kid))
		}
	}
	kid := d.of(kind, deep-1, around, within)
	h := hangsOn(kid, around)
	level := h + d.next(around-h+1)
	if d.next(100) < d.wrong {
		level = d.next(7) - 1
	}
	d.have = append(d.have, kept{kid, kind, level, around})
	return cell(len(d.have)-1, kid)
}

func (d *drawn) number() int {
	if d.next(100) >= d.wild {
		return d.next(4) - 1
	}
	great := []int{math.MaxInt, math.MinInt, 1 << 62, -1 << 62, 1 << 32}
	return great[d.next(len(great))]
}

func (d *drawn) leaf(kind, around int) api.Node {
	switch kind {
	case api.KindInt:
		if d.next(3) == 0 {
			return call(api.CallDegree, d.leaf(api.KindVertex, around))
		}
		return integer(d.number())
	case api.KindBool:
		if d.next(3) == 0 {
			return call(api.CallConnected, d.leaf(api.KindVertex, around), d.leaf(api.KindVertex, around))
		}
		return boolean(d.next(2))
	case api.KindVertex:
		if d.next(100) < d.wrong {
			return variable(d.next(5))
		}
		if around > 0 && d.next(2) > 0 {
			return variable(d.next(around))
		}
		if d.next(60) == 0 {
			return vertex(9)
		}
		return vertex(1 + d.next(7))
	}
	return all
}

func (d *drawn) call(kind int, kid func(int) api.Node) api.Node {
	first, second := kid(api.KindVertex), kid(api.KindVertex)
	switch kind {
	case api.KindInt:
		if n := api.CallBottleneck + d.next(7); n > api.CallBottleneck {
			return call(n, first)
		}
		return call(api.CallBottleneck, first, second)
	case api.KindBool:
		return call(api.CallConnected+d.next(2), first, second)
	}
	return call(api.CallRep, first)
}

func (d *drawn) operator(kind int, kid func(int) api.Node) api.Node {
	two := func(kind, kids int) api.Node { return of(kind, kid(kids), kid(kids)) }
	switch kind {
	case api.KindInt:
		if n := api.EAdd + d.next(6); n <= api.ERem {
			return two(n, api.KindInt)
		}
		return of(api.ENeg, kid(api.KindInt))
	case api.KindBool:
		switch d.next(4) {
		case 0:
			return of(api.ENot, kid(api.KindBool))
		case 1:
			return two(api.EEq+d.next(2), 1+d.next(3))
		case 2:
			return two(api.ELess+d.next(2), api.KindInt)
		}
		return two(api.EAnd+d.next(2), api.KindBool)
	}
	return d.call(kind, kid)
}

func (d *drawn) quantifier(kind, deep, around, within int) api.Node {
	n, body := api.QuantAll+d.next(2), api.KindBool
	if kind == api.KindInt {
		n = api.QuantCount + d.next(4)
		if n > api.QuantCount {
			body = api.KindInt
		}
	}
	return quant(n, d.set(deep-1, around, within+1), d.of(body, deep-1-d.next(2), around+1, within+1))
}

func (d *drawn) set(deep, around, within int) api.Node {
	switch d.next(6) {
	case 0, 1:
		return of(api.ESetAll)
	case 2:
		names := []string{"few", "many", "nobody", "few", "many", "even", "even"}
		return setName(names[d.next(len(names))])
	case 3:
		return of(api.ESetAround, d.of(api.KindVertex, deep, around, within))
	}
	list := of(api.ESetList)
	for range d.next(4) {
		list.Kids = append(list.Kids, d.of(api.KindVertex, deep-1, around, within))
	}
	return list
}
