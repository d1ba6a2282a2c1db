package share

import (
	"isthmus/api"
	"isthmus/node"
)

// part is a node, with what it is told alike by.
type part struct {
	node api.Node
	list int  // the number of its kids' row
	call call // the zero one, unless it is a free ECall
	kids []part
}

// call is what free ECalls are told alike by. The chapter's words ask for no more: calls in unlike many rounds may be alike, though a number of a variable that is bound within them means another quantifier in each.
type call struct {
	which int
	kids  int // the number of their row
	hangs int // on so many of the quantifiers around it
}

// row is a list of nodes: its last one, and the number of the row ahead of that. Two lists are the same, part by part, if their rows have one number; so no part is looked at twice, however deep it stands.
type row struct {
	ahead   int
	kind, n int
	name    string
	kids    int
}

// reader lays parts out of nodes, and counts the free calls that are alike.
type reader struct {
	rows map[row]int // their numbers, from 1 on; that of no nodes is 0
	many map[call]int
}

// part is that of a node with so many quantifiers around it.
func (r reader) part(n api.Node, around int, free bool) part {
	p := part{node: n}
	for i, kid := range n.Kids {
		k := r.part(kid, node.Around(n, i, around), free && n.Kind != api.ECell)
		p.kids = append(p.kids, k)
		p.list = r.number(row{p.list, kid.Kind, kid.N, kid.Name, k.list})
	}
	if free && n.Kind == api.ECall {
		p.call = call{n.N, p.list, node.Hangs(n, around)}
		r.many[p.call]++
	}
	return p
}

func (r reader) number(x row) int {
	n, is := r.rows[x]
	if !is {
		n = len(r.rows) + 1
		r.rows[x] = n
	}
	return n
}
