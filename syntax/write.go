package syntax

import (
	"strconv"

	"isthmus/api"
)

// depth counts what is open, and what was open at most.
type depth struct {
	now, most int
}

func (d *depth) enter() {
	d.now++
	d.most = max(d.most, d.now)
}

func (d *depth) leave() { d.now-- }

// writer lays a text of parts whose form holds.
type writer struct {
	text   []byte
	open   depth
	quants depth
}

// written is the text of a tree, if the tree is right.
func written(e api.Expr) (string, bool) {
	if isSet(e) || !new(form).holds(e) {
		return "", false
	}
	w := new(writer)
	w.part(e, rowTail)
	if len(w.text) > api.MaxSource || w.open.most > api.MaxNest || w.quants.most > api.MaxQuants {
		return "", false
	}
	return string(w.text), true
}

func (w *writer) lay(text string) { w.text = append(w.text, text...) }

// part lays a part where a row is asked for.
func (w *writer) part(e api.Expr, asked int) {
	if rowOf(e.Kind) < asked {
		w.list("(", []api.Expr{e}, ")")
		return
	}
	switch e.Kind {
	case api.ENot:
		w.prefixed("not ", e.Kids[0], rowNot)
	case api.ENeg:
		w.prefixed("-", e.Kids[0], rowNegative)
	case api.EIf:
		w.choice(e)
	case api.EQuant:
		w.quantified(e)
	case api.ECall:
		c, _ := callOf(e.N)
		w.lay(c.word)
		w.list("(", e.Kids, ")")
	case api.ESetAround:
		w.lay("around")
		w.list("(", e.Kids, ")")
	case api.ESetList:
		w.list("{", e.Kids, "}")
	default:
		w.plain(e)
	}
}

// plain lays a part that opens nothing.
func (w *writer) plain(e api.Expr) {
	switch e.Kind {
	case api.EInt:
		w.lay(strconv.Itoa(e.N))
	case api.EBool:
		w.lay(strconv.FormatBool(e.N == 1))
	case api.EVertex:
		w.lay("@")
		w.lay(strconv.Itoa(e.N))
	case api.EName, api.ESetName:
		w.lay(e.Name)
	case api.ESetAll:
		w.lay("vertices")
	default:
		o, _ := operatorOf(e.Kind)
		w.part(e.Kids[0], o.left)
		w.lay(" " + o.text + " ")
		w.part(e.Kids[1], o.right)
	}
}

// list lays parts between two brackets.
func (w *writer) list(opening string, parts []api.Expr, closing string) {
	w.open.enter()
	w.lay(opening)
	for i, e := range parts {
		if i > 0 {
			w.lay(", ")
		}
		w.part(e, rowTail)
	}
	w.lay(closing)
	w.open.leave()
}

func (w *writer) prefixed(text string, kid api.Expr, asked int) {
	w.open.enter()
	w.lay(text)
	w.part(kid, asked)
	w.open.leave()
}

func (w *writer) choice(e api.Expr) {
	w.open.enter()
	w.lay("if ")
	w.part(e.Kids[0], rowTail)
	w.lay(" then ")
	w.part(e.Kids[1], rowTail)
	w.lay(" else ")
	w.part(e.Kids[2], rowTail)
	w.open.leave()
}

func (w *writer) quantified(e api.Expr) {
	q, _ := quantifierOf(e.N)
	w.open.enter()
	w.quants.enter()
	w.lay(q.word + " " + e.Name + " in ")
	w.part(e.Kids[0], rowTail)
	w.lay(": ")
	w.part(e.Kids[1], rowTail)
	w.quants.leave()
	w.open.leave()
}
