package syntax_test

import (
	"fmt"
	"slices"

	"isthmus/api"
)

func integer(n int) api.Expr { return api.Expr{Kind: api.EInt, N: n} }

func boolean(n int) api.Expr { return api.Expr{Kind: api.EBool, N: n} }

func vertex(n int) api.Expr { return api.Expr{Kind: api.EVertex, N: n} }

func name(text string) api.Expr { return api.Expr{Kind: api.EName, Name: text} }

func of(kind int, kids ...api.Expr) api.Expr { return api.Expr{Kind: kind, Kids: kids} }

func call(n int, kids ...api.Expr) api.Expr { return api.Expr{Kind: api.ECall, N: n, Kids: kids} }

func quant(n int, variable string, set, body api.Expr) api.Expr {
	return api.Expr{Kind: api.EQuant, N: n, Name: variable, Kids: []api.Expr{set, body}}
}

func setName(text string) api.Expr { return api.Expr{Kind: api.ESetName, Name: text} }

// at is a part at a place.
func at(place int, e api.Expr) api.Expr {
	e.At = place
	return e
}

func isZero(e api.Expr) bool {
	return e.Kind == 0 && e.N == 0 && e.Name == "" && len(e.Kids) == 0 && e.At == 0
}

// told is a tree as a message has room for it.
func told(e api.Expr) string {
	text := fmt.Sprintf("%+v", e)
	if len(text) > 600 {
		text = text[:600] + ".."
	}
	return text
}

// equal asks for the places too; a list without elements may be nil or not.
func equal(a, b api.Expr) bool {
	return a.At == b.At && a.Kind == b.Kind && a.N == b.N && a.Name == b.Name && slices.EqualFunc(a.Kids, b.Kids, equal)
}

// copied is a tree in memory of its own.
func copied(e api.Expr) api.Expr {
	kids := make([]api.Expr, 0, len(e.Kids))
	for _, kid := range e.Kids {
		kids = append(kids, copied(kid))
	}
	e.Kids = kids
	return e
}

// unplaced is a copy of a tree without its places.
func unplaced(e api.Expr) api.Expr {
	e = copied(e)
	each(&e, func(x *api.Expr) { x.At = 0 })
	return e
}

// each does something to all parts of a tree, the whole first.
func each(e *api.Expr, do func(*api.Expr)) {
	do(e)
	for i := range e.Kids {
		each(&e.Kids[i], do)
	}
}

// spread is a copy of a tree that has what stands behind the lengths of its lists too.
func spread(e api.Expr) api.Expr {
	var kids []api.Expr
	for _, kid := range e.Kids[:cap(e.Kids)] {
		kids = append(kids, spread(kid))
	}
	e.Kids = kids
	return e
}

// chain is so many parts one in another, each made of the one within it.
func chain(many int, e api.Expr, around func(api.Expr) api.Expr) api.Expr {
	for range many {
		e = around(e)
	}
	return e
}

// binaryKinds are all kinds of two kids that a sign or a word stands between.
func binaryKinds() []int {
	return []int{api.EAdd, api.ESub, api.EMul, api.EDiv, api.ERem, api.EEq, api.ENe, api.ELess, api.EAtMost, api.EAnd, api.EOr}
}

// drawnTree is a tree of the form that queries have, of at most so many parts within one another and so many quantifiers.
func drawnTree(next func(int) int, deep, quants int) api.Expr {
	kid := func() api.Expr { return drawnTree(next, deep-1-next(2), quants) }
	if deep <= 0 {
		return drawnLeaf(next)
	}
	switch next(9) {
	case 0:
		return of(api.ENeg, kid())
	case 1:
		return of(api.ENot, kid())
	case 2:
		return of(api.EIf, kid(), kid(), kid())
	case 3:
		if n := 1 + next(10); n > 3 {
			return call(n, kid())
		} else {
			return call(n, kid(), kid())
		}
	case 4:
		if quants > 0 {
			quants--
			return quant(1+next(6), drawnName(next), drawnSet(next, deep-1, quants), kid())
		}
	}
	kinds := binaryKinds()
	return of(kinds[next(len(kinds))], kid(), kid())
}

func drawnLeaf(next func(int) int) api.Expr {
	figures := []int{0, 1, 7, 10, 1 << 40, 1<<40 + 1, 1<<63 - 1}
	switch next(4) {
	case 0:
		return integer(figures[next(len(figures))])
	case 1:
		return boolean(next(2))
	case 2:
		return vertex(figures[next(len(figures))])
	}
	return name(drawnName(next))
}

func drawnName(next func(int) int) string {
	names := []string{"v", "w", "in_", "x1", "a_0123456789", "allin"}
	return names[next(len(names))]
}

func drawnSet(next func(int) int, deep, quants int) api.Expr {
	switch next(4) {
	case 0:
		return of(api.ESetAll)
	case 1:
		return setName(drawnName(next))
	case 2:
		return of(api.ESetAround, drawnTree(next, deep, quants))
	}
	list := of(api.ESetList)
	for range next(4) {
		list.Kids = append(list.Kids, drawnTree(next, deep-1, quants))
	}
	return list
}
