package share

import (
	"isthmus/api"
	"isthmus/node"
)

// walk goes through a plan's parts, and puts calls that stand twice into cells.
type walk struct {
	many   map[call]int // how many free ones there are
	cells  map[call]int // those that were opened
	levels []int        // the Cells of the plan that comes out
}

// through is a part's node in memory of its own, gone through.
func (w *walk) through(p part) api.Node {
	if w.many[p.call] > 1 {
		if cell, is := w.cell(p.call); is {
			return api.Node{Kind: api.ECell, N: cell, Kids: []api.Node{node.Copy(p.node)}}
		}
	}
	n := p.node
	n.Kids = nil
	for _, kid := range p.kids {
		n.Kids = append(n.Kids, w.through(kid))
	}
	return n
}

// cell is that of a call: the one that an alike call opened, or a new one while there is room.
func (w *walk) cell(c call) (int, bool) {
	cell, is := w.cells[c]
	if is {
		return cell, true
	}
	if len(w.levels) >= api.MaxCells {
		return 0, false
	}
	cell = len(w.levels)
	w.cells[c] = cell
	w.levels = append(w.levels, c.hangs)
	return cell, true
}
