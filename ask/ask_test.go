package ask_test

import (
	"slices"
	"testing"

	"isthmus/api"
	"isthmus/ask"
	"isthmus/reckon"
	"isthmus/store"
)

// docGraph is that of DOC.md's examples, whose vertices came in another order.
func docGraph(t *testing.T) *store.Store {
	t.Helper()
	s, e := store.New(8, 8)
	if e != api.OK {
		t.Fatal(e)
	}
	for i := 5; i >= 1; i-- {
		s.AddVertex(i, 10*i)
	}
	for _, x := range []api.Edge{{ID: 11, U: 1, V: 2, Weight: 4}, {ID: 12, U: 2, V: 3, Weight: 7}, {ID: 13, U: 1, V: 3, Weight: 9}, {ID: 14, U: 3, V: 4, Weight: 2}} {
		s.AddEdge(x.ID, x.U, x.V, x.Weight)
	}
	s.AddSet("few")
	for _, v := range []int{5, 1, 4} {
		s.Put("few", v)
	}
	s.AddSet("none")
	return s
}

func TestVertex(t *testing.T) {
	s := docGraph(t)
	for id := -2; id < 9; id++ {
		want, wantFault := id, reckon.NoFault
		if id < 1 || id > 5 {
			want, wantFault = 0, api.FaultVertex
		}
		if n, fault := ask.Vertex(s, id); n != want || fault != wantFault {
			t.Errorf("%d: %d, %d", id, n, fault)
		}
	}
}

func TestCall(t *testing.T) {
	s := docGraph(t)
	for _, x := range []struct {
		which int
		of    []int
		want  int
		fault int
	}{
		{api.CallConnected, []int{1, 4}, 1, 0}, {api.CallConnected, []int{1, 5}, 0, 0}, {api.CallConnected, []int{1, 9}, 0, api.FaultVertex}, {api.CallConnected, []int{9, 1}, 0, api.FaultVertex},
		{api.CallBlock, []int{1, 3}, 1, 0}, {api.CallBlock, []int{3, 4}, 0, 0}, {api.CallBlock, []int{3, 9}, 0, api.FaultVertex}, {api.CallBlock, []int{9, 3}, 0, api.FaultVertex},
		{api.CallBottleneck, []int{1, 3}, 7, 0}, {api.CallBottleneck, []int{1, 5}, 0, api.FaultEmpty}, {api.CallBottleneck, []int{1, 1}, 0, api.FaultEmpty}, {api.CallBottleneck, []int{9, 9}, 0, api.FaultVertex}, {api.CallBottleneck, []int{1, 9}, 0, api.FaultVertex},
		{api.CallSize, []int{2}, 4, 0}, {api.CallTotal, []int{2}, 100, 0}, {api.CallLeast, []int{2}, 10, 0}, {api.CallMost, []int{2}, 40, 0}, {api.CallValue, []int{2}, 20, 0}, {api.CallDegree, []int{3}, 3, 0}, {api.CallRep, []int{4}, 1, 0}, {api.CallRep, []int{5}, 5, 0},
		{api.CallSize, []int{9}, 0, api.FaultVertex}, {api.CallTotal, []int{9}, 0, api.FaultVertex}, {api.CallLeast, []int{9}, 0, api.FaultVertex}, {api.CallMost, []int{9}, 0, api.FaultVertex}, {api.CallValue, []int{9}, 0, api.FaultVertex}, {api.CallDegree, []int{9}, 0, api.FaultVertex}, {api.CallRep, []int{9}, 0, api.FaultVertex},
	} {
		if n, fault := ask.Call(s, x.which, x.of); n != x.want || fault != x.fault {
			t.Errorf("the call %d of %v: %d, %d; wanted %d, %d", x.which, x.of, n, fault, x.want, x.fault)
		}
	}
}

func TestSets(t *testing.T) {
	s := docGraph(t)
	want := func(what string, got, want []int, fault, wantFault int) {
		t.Helper()
		if !slices.Equal(got, want) || fault != wantFault {
			t.Errorf("%s: %v, %d; wanted %v, %d", what, got, fault, want, wantFault)
		}
	}
	want("all", ask.All(s), []int{1, 2, 3, 4, 5}, 0, 0)
	for name, ids := range map[string][]int{"few": {1, 4, 5}, "none": nil} {
		got, fault := ask.Named(s, name)
		want(name, got, ids, fault, reckon.NoFault)
	}
	for _, name := range []string{"nobody", "", "all"} {
		got, fault := ask.Named(s, name)
		want(name, got, nil, fault, api.FaultSet)
	}
	for id, ids := range map[int][]int{4: {1, 2, 3, 4}, 1: {1, 2, 3, 4}, 5: {5}} {
		got, fault := ask.Around(s, id)
		want("around", got, ids, fault, reckon.NoFault)
	}
	got, fault := ask.Around(s, 9)
	want("around none", got, nil, fault, api.FaultVertex)
}

// A list is new memory: what it was made of stays as it was.
func TestList(t *testing.T) {
	for _, x := range [][2][]int{{{3, 1, 3, 2, 1}, {1, 2, 3}}, {{5}, {5}}, {{}, {}}, {nil, nil}, {{1, 2}, {1, 2}}, {{7, 7, 7}, {7}}} {
		was := slices.Clone(x[0])
		got := ask.List(x[0])
		if !slices.Equal(got, x[1]) || !slices.Equal(x[0], was) {
			t.Errorf("%v of %v", got, was)
		}
		for i := range got {
			got[i] = 99
		}
		if !slices.Equal(x[0], was) {
			t.Errorf("%v was written into", was)
		}
	}
}
