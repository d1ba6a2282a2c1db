package emit_test

import (
	"reflect"
	"testing"

	"isthmus/api"
	"isthmus/emit"
)

// A plan is only looked at, nor is what stands behind its lists written into; and code is memory of its own.
func TestE2Memory(t *testing.T) {
	d := drawing(25, 15, 1)
	right := 0
	for i := range 1500 {
		p := d.plan(1+i%3, 3+i%5)
		grow(&p)
		before := spread(p)
		first, err := emit.Emit(p)
		second, _ := emit.Emit(p)
		if !reflect.DeepEqual(before, spread(p)) {
			t.Fatalf("was written into: %s", told(p))
		}
		want := written(second)
		spoilCode(first)
		if written(second) != want || !reflect.DeepEqual(before, spread(p)) {
			t.Fatalf("%s was written into, and is %s", want, written(second))
		}
		third, _ := emit.Emit(p)
		spoilPlan(&p)
		if written(second) != want || written(third) != want {
			t.Fatalf("%s hung on what was handed in, and is %s", want, written(second))
		}
		right += truth(err == api.OK)
	}
	if right < 1000 {
		t.Errorf("%d", right)
	}
}

// No two lists of one answer share memory, spare room too.
func TestE2ListsApart(t *testing.T) {
	p := made(sum(setName("few"), of(api.EAdd, cell(0, integer(7)), cell(1, integer(8)))), 0, 1)
	want, _ := emit.Emit(p)
	for which := range 4 {
		c, _ := emit.Emit(p)
		switch which {
		case 0:
			spoil(c.Words, 99)
			c.Words = want.Words
		case 1:
			spoil(c.Consts, 99)
			c.Consts = want.Consts
		case 2:
			spoil(c.Names, "spoiled")
			c.Names = want.Names
		case 3:
			spoil(c.Cells, 99)
			c.Cells = want.Cells
		}
		if !sameCode(c, want) {
			t.Errorf("list %d shares memory: %s", which, brief(c))
		}
	}
}

// One list of kids that stands at several places is one at each of them.
func TestE2SharedMemory(t *testing.T) {
	one := []api.Node{vertex(1)}
	size := api.Node{Kind: api.ECall, N: api.CallSize, Kids: one}
	both := []api.Node{size, size}
	kept := api.Node{Kind: api.ECell, Kids: []api.Node{{Kind: api.EAdd, Kids: both}}}
	shared := of(api.EMul, of(api.ESub, kept, kept), api.Node{Kind: api.EAdd, Kids: both})
	got, err := emitted(t, made(shared, 0))
	apart, _ := emitted(t, made(copied(shared), 0))
	if err != api.OK || !sameCode(got, apart) {
		t.Errorf("%d, %s", err, brief(got))
	}
}

// spoil writes into a list, and into all its room.
func spoil[T any](l []T, x T) {
	l = l[:cap(l)]
	for i := range l {
		l[i] = x
	}
}

func spoilCode(c api.Code) {
	spoil(c.Words, 99)
	spoil(c.Consts, 99)
	spoil(c.Names, "spoiled")
	spoil(c.Cells, 99)
}

func spoilPlan(p *api.Plan) {
	spoil(p.Cells, 99)
	spoilKids(p.Root)
}

func spoilKids(n api.Node) {
	for _, kid := range n.Kids {
		spoilKids(kid)
	}
	spoil(n.Kids, api.Node{Kind: -9})
}

// grow gives all lists some room, with something in it.
func grow(p *api.Plan) {
	each(&p.Root, func(n *api.Node) {
		n.Kids = append(make([]api.Node, 0, len(n.Kids)+2), n.Kids...)
		spoil(n.Kids[len(n.Kids):cap(n.Kids)], api.Node{Kind: -5, N: 77})
	})
	p.Cells = append(make([]int, 0, len(p.Cells)+3), p.Cells...)
	spoil(p.Cells[len(p.Cells):cap(p.Cells)], 77)
}

// spread is a copy of a plan that has what stands behind the lengths of its lists too.
func spread(p api.Plan) api.Plan {
	return api.Plan{Root: spreadNode(p.Root), Cells: append([]int(nil), p.Cells[:cap(p.Cells)]...)}
}

func spreadNode(n api.Node) api.Node {
	var kids []api.Node
	for _, kid := range n.Kids[:cap(n.Kids)] {
		kids = append(kids, spreadNode(kid))
	}
	n.Kids = kids
	return n
}
