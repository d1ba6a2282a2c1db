package emit

import "isthmus/api"

func (w *writer) quantifier(n api.Node, at spot) {
	set, body := n.Kids[0], n.Kids[1]
	w.part(set, at)
	switch n.N {
	case api.QuantAll:
		w.search(body, api.OpTrue, 0, at)
	case api.QuantSome:
		w.search(body, api.OpFalse, 1, at)
	case api.QuantCount:
		w.constant(0, api.KindInt, at)
		w.gather(body, at.over(1), func(again int) {
			w.lay(api.OpFalse, again, 0)
			w.constant(1, api.KindInt, at.over(1))
			w.lay(api.OpAdd, 0, 0)
		})
	case api.QuantSum:
		w.constant(0, api.KindInt, at)
		w.gather(body, at.over(1), func(int) { w.lay(api.OpAdd, 0, 0) })
	case api.QuantMin, api.QuantMax:
		w.constant(0, api.KindInt, at)
		w.constant(0, api.KindBool, at.over(1))
		w.gather(body, at.over(2), func(int) { w.lay(api.OpBest, n.N-api.QuantMin, 0) })
		w.lay(api.OpSome, 0, 0)
	}
}

// search lays rounds that end at the first body that is worth what is sought; till then an operation leads back.
func (w *writer) search(body api.Node, leads, sought int, at spot) {
	again := w.next()
	found := func() {
		w.body(body, at)
		w.lay(leads, again, 0)
		w.lay(api.OpClose, 0, 0)
		w.constant(sought, api.KindBool, at)
	}
	w.fork(api.OpNext, found, func() { w.constant(1-sought, api.KindBool, at) })
}

// gather lays rounds over all vertices. What is done with a body's worth is told where the next round begins.
func (w *writer) gather(body api.Node, at spot, take func(again int)) {
	again := w.next()
	defer w.land(w.lay(api.OpNext, 0, 0))
	w.body(body, at)
	take(again)
	w.lay(api.OpJump, again, 0)
}

// body lays a quantifier's body, and ahead of it that all cells which the quantifier's vertex changes are empty.
func (w *writer) body(n api.Node, at spot) {
	at.around++
	for cell, level := range w.levels {
		if level == at.around {
			w.lay(api.OpClear, cell, 0)
		}
	}
	w.part(n, at)
}
