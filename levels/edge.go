package levels

import (
	"slices"

	"isthmus/api"
	"isthmus/tour"
)

// layer is a level, and how many vertices a tree of its forest has at most. That forest has the edges of the level and of those above it; in it are marked the edges of the level itself, and the vertices at which a spare edge of the level ends.
type layer struct {
	level, most int
}

// edge is two vertices, its level, and whether it is of the forest; if not, it is a spare one.
type edge struct {
	u, v, level int
	spans       bool
}

// end is where spare edges of a level end.
type end struct {
	level, vertex int
}

// has asks whether there is such a vertex.
func (l *Levels) has(v int) bool {
	return v >= 0 && v < l.n
}

// layer is that of a level.
func (l *Levels) layer(level int) layer {
	return layer{level: level, most: l.n >> level}
}

// forest is that of a level.
func (l *Levels) forest(level int) *tour.Tours {
	return l.forests[l.layer(level)]
}

// pair is an edge's ends, the lesser one first: a forest has no two edges between the same ones.
func pair(u, v int) api.Pair {
	return api.Pair{U: min(u, v), V: max(u, v)}
}

// joins asks whether an edge leads from one tree to another one, in the forest of its level.
func (l *Levels) joins(x edge) bool {
	same, _ := l.forest(x.level).Same(x.u, x.v)
	return !same
}

// span lets an edge be one of the forest.
func (l *Levels) span(id int, x edge) {
	x.spans = true
	l.edges[id] = x
	l.spans[pair(x.u, x.v)] = id
	for at, trees := range l.forests {
		if at.level <= x.level {
			trees.Link(x.u, x.v)
		}
	}
	l.forest(x.level).MarkEdge(x.u, x.v, true)
}

// cut takes an edge out of the forest.
func (l *Levels) cut(x edge) {
	delete(l.spans, pair(x.u, x.v))
	for at, trees := range l.forests {
		if at.level <= x.level {
			trees.Cut(x.u, x.v)
		}
	}
}

// spare lets an edge be a spare one.
func (l *Levels) spare(id int, x edge) {
	l.edges[id] = x
	for _, v := range []int{x.u, x.v} {
		at := end{level: x.level, vertex: v}
		l.spares[at] = append(l.spares[at], id)
		l.forest(x.level).Mark(v, true)
	}
}

// unspare takes a spare edge from its ends.
func (l *Levels) unspare(id int, x edge) {
	for _, v := range []int{x.u, x.v} {
		at := end{level: x.level, vertex: v}
		i := slices.Index(l.spares[at], id)
		l.spares[at] = slices.Delete(l.spares[at], i, i+1)
		if len(l.spares[at]) == 0 {
			delete(l.spares, at)
			l.forest(x.level).Mark(v, false)
		}
	}
}

// mend looks for a spare edge in the place of one that was cut. Spare edges of a higher level than its own never led over it.
func (l *Levels) mend(x edge) {
	for level := x.level; level >= 0; level-- {
		v := l.lesser(level, x.u, x.v)
		l.lift(level, v)
		if l.replace(level, v) {
			return
		}
	}
}

// lesser is the one of two vertices whose tree has fewer vertices: at most half of those of the tree that both were of, so that it may stand a level higher.
func (l *Levels) lesser(level, u, v int) int {
	first, _ := l.forest(level).Sum(u)
	second, _ := l.forest(level).Sum(v)
	if first.Count <= second.Count {
		return u
	}
	return v
}

// lift lifts the edges of a level in a vertex's tree.
func (l *Levels) lift(level, v int) {
	for {
		p, e := l.forest(level).MarkedEdge(v)
		if e != api.OK {
			return
		}
		l.forest(level).MarkEdge(p.U, p.V, false)
		id := l.spans[pair(p.U, p.V)]
		x := l.edges[id]
		x.level++
		l.edges[id] = x
		l.forest(x.level).Link(x.u, x.v)
		l.forest(x.level).MarkEdge(x.u, x.v, true)
	}
}

// replace looks at the spare edges of a level that end in a vertex's tree, till one leads out of it. Those that don't are lifted, so that they aren't looked at too often.
func (l *Levels) replace(level, v int) bool {
	for {
		w, e := l.forest(level).Marked(v)
		if e != api.OK {
			return false
		}
		id := l.spares[end{level: level, vertex: w}][0]
		x := l.edges[id]
		l.unspare(id, x)
		if l.joins(x) {
			l.span(id, x)
			return true
		}
		x.level++
		l.spare(id, x)
	}
}
