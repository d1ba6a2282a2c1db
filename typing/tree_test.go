package typing_test

import (
	"fmt"

	"isthmus/api"
	"isthmus/syntax"
)

func integer(n int) api.Expr { return api.Expr{Kind: api.EInt, N: n} }

func boolean(n int) api.Expr { return api.Expr{Kind: api.EBool, N: n} }

func vertex(n int) api.Expr { return api.Expr{Kind: api.EVertex, N: n} }

func name(text string) api.Expr { return api.Expr{Kind: api.EName, Name: text} }

func of(kind int, kids ...api.Expr) api.Expr { return api.Expr{Kind: kind, Kids: kids} }

func call(n int, kids ...api.Expr) api.Expr { return api.Expr{Kind: api.ECall, N: n, Kids: kids} }

func quant(n int, variable string, set, body api.Expr) api.Expr {
	return api.Expr{Kind: api.EQuant, N: n, Name: variable, Kids: []api.Expr{set, body}}
}

func setName(text string) api.Expr { return api.Expr{Kind: api.ESetName, Name: text} }

// at is a part at a place.
func at(place int, e api.Expr) api.Expr {
	e.At = place
	return e
}

// told is a tree as a message has room for it: its print, if it has one, and all that it has.
func told(e api.Expr) string {
	text, _ := syntax.Print(e)
	if syntax.Right(e) {
		text += fmt.Sprintf(": %+v", e)
	} else {
		text = fmt.Sprintf("no right tree of kind %d and %d kids", e.Kind, len(e.Kids))
	}
	if len(text) > 600 {
		text = text[:600] + ".."
	}
	return text
}

// copied is a tree in memory of its own.
func copied(e api.Expr) api.Expr {
	var kids []api.Expr
	for _, kid := range e.Kids {
		kids = append(kids, copied(kid))
	}
	e.Kids = kids
	return e
}

// each does something to all parts of a tree, the whole first.
func each(e *api.Expr, do func(*api.Expr)) {
	do(e)
	for i := range e.Kids {
		each(&e.Kids[i], do)
	}
}

// placed is a copy of a tree whose parts have unlike places, from a number on: no two answers are alike by chance.
func placed(e api.Expr, from int) api.Expr {
	e = copied(e)
	each(&e, func(x *api.Expr) {
		x.At = from
		from++
	})
	return e
}

// chain is so many parts one in another, each made of the one within it.
func chain(many int, e api.Expr, around func(api.Expr) api.Expr) api.Expr {
	for range many {
		e = around(e)
	}
	return e
}

// samples has a part of each kind that needs no variable.
func samples() [4]api.Expr {
	return [4]api.Expr{api.KindInt: integer(1), api.KindBool: boolean(1), api.KindVertex: vertex(1)}
}

// twoKids are all parts of two kids that are no sets, by their kinds and numbers.
func twoKids() []api.Expr {
	var all []api.Expr
	for kind := api.EAdd; kind <= api.EOr; kind++ {
		all = append(all, of(kind))
	}
	for n := api.CallConnected; n <= api.CallBottleneck; n++ {
		all = append(all, call(n))
	}
	return all
}

// oneKid are all parts of one kid that are no sets.
func oneKid() []api.Expr {
	all := []api.Expr{of(api.ENeg), of(api.ENot)}
	for n := api.CallSize; n <= api.CallRep; n++ {
		all = append(all, call(n))
	}
	return all
}

// with is a part with kids.
func with(e api.Expr, kids ...api.Expr) api.Expr {
	e.Kids = kids
	return e
}

// drawn draws trees of queries.
type drawn struct {
	next   func(int) int
	wrong  int // of a hundred parts so many are of whatever kind, and names whatever names
	names  []string
	anyone []string
}

func drawing(wrong int) *drawn {
	return &drawn{next: numbers(), wrong: wrong, anyone: []string{"v", "w", "x", "a_0123456789"}}
}

// of draws a part of a kind, where the names that are held are bound.
func (d *drawn) of(kind, deep, quants int) api.Expr {
	if d.next(100) < d.wrong {
		kind = 1 + d.next(3)
	}
	if deep <= 0 {
		return d.leaf(kind)
	}
	switch d.next(6) {
	case 0:
		return d.leaf(kind)
	case 1:
		return of(api.EIf, d.kid(api.KindBool, deep, quants), d.kid(kind, deep, quants), d.kid(kind, deep, quants))
	case 2:
		return d.call(kind, deep, quants)
	}
	if quants > 0 && kind != api.KindVertex && d.next(3) == 0 {
		return d.quantifier(kind, deep, quants-1)
	}
	return d.operator(kind, deep, quants)
}

func (d *drawn) kid(kind, deep, quants int) api.Expr {
	return d.of(kind, deep-1-d.next(2), quants)
}

func (d *drawn) leaf(kind int) api.Expr {
	switch kind {
	case api.KindInt:
		return integer(d.next(20))
	case api.KindBool:
		return boolean(d.next(2))
	}
	if d.next(100) < d.wrong {
		return name(d.anyone[d.next(len(d.anyone))])
	}
	if len(d.names) > 0 && d.next(4) > 0 {
		return name(d.names[d.next(len(d.names))])
	}
	return vertex(d.next(20))
}

func (d *drawn) call(kind, deep, quants int) api.Expr {
	first, second := d.kid(api.KindVertex, deep, quants), d.kid(api.KindVertex, deep, quants)
	switch kind {
	case api.KindInt:
		if n := api.CallBottleneck + d.next(7); n > api.CallBottleneck {
			return call(n, first)
		}
		return call(api.CallBottleneck, first, second)
	case api.KindBool:
		return call(api.CallConnected+d.next(2), first, second)
	}
	return call(api.CallRep, first)
}

func (d *drawn) operator(kind, deep, quants int) api.Expr {
	two := func(kind, kids int) api.Expr {
		return of(kind, d.kid(kids, deep, quants), d.kid(kids, deep, quants))
	}
	switch kind {
	case api.KindInt:
		if n := api.EAdd + d.next(6); n <= api.ERem {
			return two(n, api.KindInt)
		}
		return of(api.ENeg, d.kid(api.KindInt, deep, quants))
	case api.KindBool:
		switch d.next(4) {
		case 0:
			return of(api.ENot, d.kid(api.KindBool, deep, quants))
		case 1:
			return two(api.EEq+d.next(2), 1+d.next(3))
		case 2:
			return two(api.ELess+d.next(2), api.KindInt)
		}
		return two(api.EAnd+d.next(2), api.KindBool)
	}
	return d.call(kind, deep, quants)
}

func (d *drawn) quantifier(kind, deep, quants int) api.Expr {
	n, body := api.QuantAll+d.next(2), api.KindBool
	if kind == api.KindInt {
		n = api.QuantCount + d.next(4)
		if n > api.QuantCount {
			body = api.KindInt
		}
	}
	variable := d.anyone[d.next(len(d.anyone))]
	set := d.set(deep-1, quants)
	d.names = append(d.names, variable)
	e := quant(n, variable, set, d.kid(body, deep, quants))
	d.names = d.names[:len(d.names)-1]
	return e
}

func (d *drawn) set(deep, quants int) api.Expr {
	switch d.next(4) {
	case 0:
		return of(api.ESetAll)
	case 1:
		return setName(d.anyone[d.next(len(d.anyone))])
	case 2:
		return of(api.ESetAround, d.of(api.KindVertex, deep, quants))
	}
	list := of(api.ESetList)
	for range d.next(4) {
		list.Kids = append(list.Kids, d.of(api.KindVertex, deep-1, quants))
	}
	return list
}
