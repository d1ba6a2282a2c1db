package splay

import "isthmus/api"

// The sides of a node: what hangs there stands ahead of it in the sequence, or behind it.
const (
	ahead  = 0
	behind = 1
)

// node has the handles of the nodes that it hangs on and that hang on it; 0 is none.
type node struct {
	item  api.Item
	up    int
	sides [2]int
	whole sums
}

// sums are of a node and of all below it.
type sums struct {
	size int
	agg  api.Agg
}

// single is what a node by itself comes to.
func single(x api.Item) sums {
	if !x.Counts {
		return sums{1, api.Agg{Flags: x.Flags}}
	}
	return sums{1, api.Agg{Count: 1, Sum: x.Value, Least: x.Value, Most: x.Value, Flags: x.Flags}}
}

// and is what two come to together.
func (s sums) and(t sums) sums {
	both := sums{s.size + t.size, api.Agg{
		Count: s.agg.Count + t.agg.Count,
		Sum:   s.agg.Sum + t.agg.Sum,
		Least: min(s.agg.Least, t.agg.Least),
		Most:  max(s.agg.Most, t.agg.Most),
		Flags: s.agg.Flags | t.agg.Flags,
	}}
	// The noughts of one where none counts are no values: the other one's stay as they are.
	switch {
	case s.agg.Count == 0:
		both.agg.Least, both.agg.Most = t.agg.Least, t.agg.Most
	case t.agg.Count == 0:
		both.agg.Least, both.agg.Most = s.agg.Least, s.agg.Most
	}
	return both
}

// node is the one of a handle, nil if there is none.
func (f *Forest) node(h int) *node {
	n, _ := f.nodes.Get(h)
	return n
}

// whole is what a node and all below it come to: nothing, if there is no such node.
func (f *Forest) whole(h int) sums {
	if n := f.node(h); n != nil {
		return n.whole
	}
	return sums{}
}

// reckon takes a node's sums together anew, out of those right below it.
func (f *Forest) reckon(h int) {
	n := f.node(h)
	n.whole = f.whole(n.sides[ahead]).and(single(n.item)).and(f.whole(n.sides[behind]))
}

// hang lays a node, or none, at a side of another one.
func (f *Forest) hang(h, side, below int) {
	f.node(h).sides[side] = below
	if n := f.node(below); n != nil {
		n.up = h
	}
}

// sideOf is at which side of another one a node hangs.
func (f *Forest) sideOf(h, up int) int {
	if f.node(up).sides[ahead] == h {
		return ahead
	}
	return behind
}

// climb goes up from a node till it comes to one that hangs on none. At each step it is told a node and what that hangs on, and answers where to go on.
func (f *Forest) climb(h int, step func(h, up int) int) {
	for up := f.node(h).up; up != 0; up = f.node(h).up {
		h = step(h, up)
	}
}

// lift turns a tree about till a node is at its top, and answers it. The way from there to all that were near it becomes half as long: so trees stay shallow in the long run.
func (f *Forest) lift(h int) *node {
	f.climb(h, func(h, up int) int {
		if over := f.node(up).up; over != 0 {
			first := h
			if f.sideOf(h, up) == f.sideOf(up, over) {
				first = up
			}
			f.turn(first)
		}
		f.turn(h)
		return h
	})
	return f.node(h)
}

// turn changes a node's place with the one that it hangs on; the order of the sequence stays.
func (f *Forest) turn(h int) {
	n := f.node(h)
	up := n.up
	over := f.node(up).up
	side := f.sideOf(h, up)
	if over == 0 {
		n.up = 0
	} else {
		f.hang(over, f.sideOf(up, over), h)
	}
	f.hang(up, side, n.sides[1-side])
	f.hang(h, 1-side, up)
	f.reckon(up)
	f.reckon(h)
}
