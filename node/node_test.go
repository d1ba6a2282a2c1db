package node_test

import (
	"reflect"
	"testing"

	"isthmus/api"
	"isthmus/node"
)

func variable(n int) api.Node { return api.Node{Kind: api.EVar, N: n} }

func of(kind int, kids ...api.Node) api.Node { return api.Node{Kind: kind, Kids: kids} }

// A quantifier is around its body alone; no other part is around anything.
func TestAround(t *testing.T) {
	for kind := range 28 {
		for around := range 5 {
			for kid := range 4 {
				want := around
				if kind == api.EQuant && kid == 1 {
					want = around + 1
				}
				if got := node.Around(of(kind, variable(0), variable(0)), kid, around); got != want {
					t.Errorf("kid %d of a part of kind %d in %d: %d, wanted %d", kid, kind, around, got, want)
				}
			}
		}
	}
}

// A part hangs on those around it that bind a variable in it, and on all that are around these.
func TestHangs(t *testing.T) {
	all := of(api.ESetAll)
	for _, x := range []struct {
		n      api.Node
		around int
		want   int
	}{
		{variable(0), 1, 1}, {variable(0), 4, 1}, {variable(3), 4, 4}, {variable(2), 4, 3}, {variable(2), 2, 0}, {variable(0), 0, 0},
		{api.Node{Kind: api.EInt, N: 2}, 4, 0}, {api.Node{Kind: api.EVertex, N: 2}, 4, 0}, {api.Node{Kind: api.EInt, N: -5}, 4, 0}, {all, 4, 0},
		{of(api.EEq, variable(0), variable(1)), 2, 2}, {of(api.EEq, variable(1), variable(0)), 2, 2}, {of(api.EEq, variable(1), variable(0)), 1, 1}, {of(api.ESetList, variable(0), variable(2), variable(1)), 3, 3},
		{of(api.EQuant, all, of(api.EEq, variable(2), variable(0))), 2, 1}, {of(api.EQuant, of(api.ESetAround, variable(1)), of(api.EEq, variable(2), variable(0))), 2, 2}, {of(api.EQuant, all, variable(2)), 2, 0},
		{of(api.ECell, of(api.ENot, of(api.EEq, variable(1), variable(1)))), 4, 2},
	} {
		if got := node.Hangs(x.n, x.around); got != x.want {
			t.Errorf("%v in %d: %d, wanted %d", x.n, x.around, got, x.want)
		}
	}
}

// A copy is the same, and what is written into it is not written into the other one.
func TestCopy(t *testing.T) {
	made := func() api.Node {
		named := api.Node{Kind: api.ESetName, Name: "few"}
		n := api.Node{Kind: api.EQuant, N: api.QuantSum, Kids: make([]api.Node, 0, 5)}
		n.Kids = append(n.Kids, named, of(api.EAdd, api.Node{Kind: api.EInt, N: 7}, of(api.ENeg, variable(0))))
		return n
	}
	n := made()
	c := node.Copy(n)
	if !reflect.DeepEqual(n, c) {
		t.Errorf("%v", c)
	}
	c.Kids[0].Name, c.Kids[1].Kids[1].Kids[0].N = "many", 5
	_ = append(c.Kids[1].Kids, variable(9))
	_ = append(c.Kids, variable(9))
	if !reflect.DeepEqual(n, made()) || n.Kids[:3][2].Kind != 0 {
		t.Errorf("%v", n)
	}
	if leaf := node.Copy(variable(3)); !reflect.DeepEqual(leaf, variable(3)) {
		t.Errorf("%v", leaf)
	}
}
