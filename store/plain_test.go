package store_test

import (
	"fmt"
	"regexp"
	"slices"
	"strings"

	"isthmus/api"
)

// graph is what both Stores and plain ones can be asked.
type graph interface {
	AddVertex(id, value int) api.Errno
	DropVertex(id int) api.Errno
	SetValue(id, value int) api.Errno
	AddEdge(id, u, v, weight int) api.Errno
	DropEdge(id int) api.Errno
	SetWeight(id, weight int) api.Errno
	AddSet(name string) api.Errno
	DropSet(name string) api.Errno
	Put(name string, id int) api.Errno
	Take(name string, id int) api.Errno
	Has(id int) bool
	Value(id int) (int, api.Errno)
	Degree(id int) (int, api.Errno)
	Size(id int) (int, api.Errno)
	Total(id int) (int, api.Errno)
	Least(id int) (int, api.Errno)
	Most(id int) (int, api.Errno)
	Rep(id int) (int, api.Errno)
	Connected(u, v int) (bool, api.Errno)
	Block(u, v int) (bool, api.Errno)
	Bottleneck(u, v int) (int, api.Errno)
	Around(id int) ([]int, api.Errno)
	Members(name string) ([]int, api.Errno)
	Vertices() []api.Vertex
	Edges() []api.Edge
	Sets() []string
	Forest() []int
	Bridges() []int
}

// set is a plain store's: its vertices in the order in which they were put there.
type set struct {
	name string
	ids  []int
}

// plain is a store by the document's words: lists, in the order in which things came; all else is found out when it is asked.
type plain struct {
	vertexRoom, edgeRoom int
	vertices             []api.Vertex
	edges                []api.Edge
	sets                 []set
}

// theWords are those of the language, as DOC.md lists them.
const theWords = "all and around block bottleneck connected count degree else false if in least max min most not or rep size some sum then total true value vertices"

// nameForm is what DOC.md says of the bytes of a name.
var nameForm = regexp.MustCompile(`\A[a-z][a-z0-9_]{0,11}\z`)

func plainName(text string) bool {
	return nameForm.MatchString(text) && !slices.Contains(strings.Fields(theWords), text)
}

func plainID(n int) bool { return 0 <= n && n <= 1099511627776 }

func plainValue(n int) bool { return -1099511627776 <= n && n <= 1099511627776 }

func (p *plain) vertex(id int) int {
	return slices.IndexFunc(p.vertices, func(x api.Vertex) bool { return x.ID == id })
}

func (p *plain) edge(id int) int {
	return slices.IndexFunc(p.edges, func(x api.Edge) bool { return x.ID == id })
}

func (p *plain) set(name string) int {
	return slices.IndexFunc(p.sets, func(x set) bool { return x.name == name })
}

func (p *plain) AddVertex(id, value int) api.Errno {
	switch {
	case !plainID(id) || !plainValue(value):
		return api.ErrArg
	case p.Has(id):
		return api.ErrStoreTwice
	case len(p.vertices) == p.vertexRoom:
		return api.ErrStoreFull
	}
	p.vertices = append(p.vertices, api.Vertex{ID: id, Value: value})
	return api.OK
}

func (p *plain) DropVertex(id int) api.Errno {
	i := p.vertex(id)
	switch {
	case i < 0:
		return api.ErrStoreNone
	case slices.ContainsFunc(p.edges, func(x api.Edge) bool { return x.U == id || x.V == id }):
		return api.ErrStoreBusy
	}
	for _, s := range p.sets {
		p.Take(s.name, id)
	}
	p.vertices = slices.Delete(p.vertices, i, i+1)
	return api.OK
}

func (p *plain) SetValue(id, value int) api.Errno {
	switch {
	case !p.Has(id):
		return api.ErrStoreNone
	case !plainValue(value):
		return api.ErrArg
	}
	p.vertices[p.vertex(id)].Value = value
	return api.OK
}

func (p *plain) AddEdge(id, u, v, weight int) api.Errno {
	switch {
	case !plainID(id) || !plainValue(weight):
		return api.ErrArg
	case p.edge(id) >= 0:
		return api.ErrStoreTwice
	case !p.Has(u) || !p.Has(v):
		return api.ErrStoreNone
	case u == v:
		return api.ErrStoreLoop
	case len(p.edges) == p.edgeRoom:
		return api.ErrStoreFull
	}
	p.edges = append(p.edges, api.Edge{ID: id, U: u, V: v, Weight: weight})
	return api.OK
}

func (p *plain) DropEdge(id int) api.Errno {
	i := p.edge(id)
	if i < 0 {
		return api.ErrStoreNone
	}
	p.edges = slices.Delete(p.edges, i, i+1)
	return api.OK
}

func (p *plain) SetWeight(id, weight int) api.Errno {
	i := p.edge(id)
	switch {
	case i < 0:
		return api.ErrStoreNone
	case !plainValue(weight):
		return api.ErrArg
	}
	p.edges[i].Weight = weight
	return api.OK
}

func (p *plain) AddSet(name string) api.Errno {
	switch {
	case !plainName(name):
		return api.ErrSetName
	case p.set(name) >= 0:
		return api.ErrSetTwice
	case len(p.sets) == 16:
		return api.ErrSetFull
	}
	p.sets = append(p.sets, set{name: name})
	return api.OK
}

func (p *plain) DropSet(name string) api.Errno {
	i := p.set(name)
	if i < 0 {
		return api.ErrSetNone
	}
	p.sets = slices.Delete(p.sets, i, i+1)
	return api.OK
}

func (p *plain) Put(name string, id int) api.Errno {
	if e := p.Take(name, id); e != api.OK {
		return e
	}
	i := p.set(name)
	p.sets[i].ids = append(p.sets[i].ids, id)
	return api.OK
}

func (p *plain) Take(name string, id int) api.Errno {
	i := p.set(name)
	switch {
	case i < 0:
		return api.ErrSetNone
	case !p.Has(id):
		return api.ErrStoreNone
	}
	p.sets[i].ids = slices.DeleteFunc(p.sets[i].ids, func(n int) bool { return n == id })
	return api.OK
}

func (p *plain) Has(id int) bool { return p.vertex(id) >= 0 }

func (p *plain) Value(id int) (int, api.Errno) {
	if !p.Has(id) {
		return 0, api.ErrStoreNone
	}
	return p.vertices[p.vertex(id)].Value, api.OK
}

func (p *plain) Degree(id int) (int, api.Errno) {
	if !p.Has(id) {
		return 0, api.ErrStoreNone
	}
	many := 0
	for _, x := range p.edges {
		for _, v := range []int{x.U, x.V} {
			if v == id {
				many++
			}
		}
	}
	return many, api.OK
}

// reach is all vertices to which there is a way from one, over some edges.
func reach(edges []api.Edge, from int) []int {
	been := []int{from}
	for i := 0; i < len(been); i++ {
		for _, x := range edges {
			for _, step := range [][2]int{{x.U, x.V}, {x.V, x.U}} {
				if step[0] == been[i] && !slices.Contains(been, step[1]) {
					been = append(been, step[1])
				}
			}
		}
	}
	slices.Sort(been)
	return been
}

// values are those of a component, rising.
func (p *plain) values(id int) ([]int, api.Errno) {
	ids, e := p.Around(id)
	var values []int
	for _, v := range ids {
		values = append(values, p.vertices[p.vertex(v)].Value)
	}
	slices.Sort(values)
	return values, e
}

func (p *plain) Size(id int) (int, api.Errno) {
	values, e := p.values(id)
	return len(values), e
}

func (p *plain) Total(id int) (int, api.Errno) {
	values, e := p.values(id)
	sum := 0
	for _, x := range values {
		sum += x
	}
	return sum, e
}

func (p *plain) Least(id int) (int, api.Errno) {
	values, e := p.values(id)
	if e != api.OK {
		return 0, e
	}
	return values[0], api.OK
}

func (p *plain) Most(id int) (int, api.Errno) {
	values, e := p.values(id)
	if e != api.OK {
		return 0, e
	}
	return values[len(values)-1], api.OK
}

func (p *plain) Rep(id int) (int, api.Errno) {
	ids, e := p.Around(id)
	if e != api.OK {
		return 0, e
	}
	return ids[0], api.OK
}

func (p *plain) Connected(u, v int) (bool, api.Errno) {
	if !p.Has(u) || !p.Has(v) {
		return false, api.ErrStoreNone
	}
	return slices.Contains(reach(p.edges, u), v), api.OK
}

// bridge asks whether there is no way between an edge's ends without it.
func (p *plain) bridge(x api.Edge) bool {
	i := p.edge(x.ID)
	return !slices.Contains(reach(slices.Delete(slices.Clone(p.edges), i, i+1), x.U), x.V)
}

func (p *plain) Block(u, v int) (bool, api.Errno) {
	if !p.Has(u) || !p.Has(v) {
		return false, api.ErrStoreNone
	}
	return slices.Contains(reach(slices.DeleteFunc(slices.Clone(p.edges), p.bridge), u), v), api.OK
}

// upTo are an edge and all that are less heavy.
func (p *plain) upTo(x api.Edge) []api.Edge {
	return slices.DeleteFunc(slices.Clone(p.edges), func(y api.Edge) bool {
		return y.Weight > x.Weight || y.Weight == x.Weight && y.ID > x.ID
	})
}

// Bottleneck is the least heavy edge such that there is a way over it and less heavy ones.
func (p *plain) Bottleneck(u, v int) (int, api.Errno) {
	is, e := p.Connected(u, v)
	if e != api.OK {
		return 0, e
	}
	if !is || u == v {
		return 0, api.ErrStorePath
	}
	var least []api.Edge
	for _, x := range p.edges {
		if slices.Contains(reach(p.upTo(x), u), v) && (least == nil || len(p.upTo(x)) < len(p.upTo(least[0]))) {
			least = []api.Edge{x}
		}
	}
	return least[0].Weight, api.OK
}

func (p *plain) Around(id int) ([]int, api.Errno) {
	if !p.Has(id) {
		return nil, api.ErrStoreNone
	}
	return reach(p.edges, id), api.OK
}

func (p *plain) Members(name string) ([]int, api.Errno) {
	i := p.set(name)
	if i < 0 {
		return nil, api.ErrSetNone
	}
	return slices.Sorted(slices.Values(p.sets[i].ids)), api.OK
}

func (p *plain) Vertices() []api.Vertex {
	return slices.SortedFunc(slices.Values(p.vertices), func(x, y api.Vertex) int { return x.ID - y.ID })
}

func (p *plain) Edges() []api.Edge {
	return slices.SortedFunc(slices.Values(p.edges), func(x, y api.Edge) int { return x.ID - y.ID })
}

func (p *plain) Sets() []string {
	var names []string
	for _, s := range p.sets {
		names = append(names, s.name)
	}
	slices.SortFunc(names, func(a, b string) int { return slices.Compare([]byte(a), []byte(b)) })
	return names
}

// Forest is the edges between whose ends there is no way over less heavy ones: they are not the heaviest ones of any ring.
func (p *plain) Forest() []int {
	var ids []int
	for _, x := range p.Edges() {
		less := slices.DeleteFunc(p.upTo(x), func(y api.Edge) bool { return y == x })
		if !slices.Contains(reach(less, x.U), x.V) {
			ids = append(ids, x.ID)
		}
	}
	return ids
}

func (p *plain) Bridges() []int {
	var ids []int
	for _, x := range p.Edges() {
		if p.bridge(x) {
			ids = append(ids, x.ID)
		}
	}
	return ids
}

// The calls: those ahead of callHas change something.
const (
	callAddVertex = iota
	callDropVertex
	callSetValue
	callAddEdge
	callDropEdge
	callSetWeight
	callAddSet
	callDropSet
	callPut
	callTake
	callHas
	callValue
	callDegree
	callSize
	callTotal
	callLeast
	callMost
	callRep
	callAround
	callMembers
	callConnected
	callBlock
	callBottleneck
	callVertices
	callEdges
	callSets
	callForest
	callBridges
	callsInAll
)

// call is one of the calls with its arguments, as far as it has them: n is a value or a weight.
type call struct {
	which, id, u, v, n int
	name               string
}

// do makes a call; all that it answers, as a text.
func do(g graph, c call) string {
	switch c.which {
	case callConnected:
		return fmt.Sprint(g.Connected(c.u, c.v))
	case callBlock:
		return fmt.Sprint(g.Block(c.u, c.v))
	case callBottleneck:
		return fmt.Sprint(g.Bottleneck(c.u, c.v))
	case callVertices:
		return fmt.Sprint(g.Vertices())
	case callEdges:
		return fmt.Sprint(g.Edges())
	case callSets:
		return fmt.Sprintf("%q", g.Sets())
	case callForest:
		return fmt.Sprint(g.Forest())
	case callBridges:
		return fmt.Sprint(g.Bridges())
	}
	if c.which < callHas {
		return fmt.Sprint(change(g, c))
	}
	return askOne(g, c)
}

// change makes a call that changes something.
func change(g graph, c call) api.Errno {
	switch c.which {
	case callAddVertex:
		return g.AddVertex(c.id, c.n)
	case callDropVertex:
		return g.DropVertex(c.id)
	case callSetValue:
		return g.SetValue(c.id, c.n)
	case callAddEdge:
		return g.AddEdge(c.id, c.u, c.v, c.n)
	case callDropEdge:
		return g.DropEdge(c.id)
	case callSetWeight:
		return g.SetWeight(c.id, c.n)
	case callAddSet:
		return g.AddSet(c.name)
	case callDropSet:
		return g.DropSet(c.name)
	case callPut:
		return g.Put(c.name, c.id)
	case callTake:
		return g.Take(c.name, c.id)
	}
	return api.OK
}

// askOne asks for something of one vertex, or of one set.
func askOne(g graph, c call) string {
	switch c.which {
	case callHas:
		return fmt.Sprint(g.Has(c.id))
	case callValue:
		return fmt.Sprint(g.Value(c.id))
	case callDegree:
		return fmt.Sprint(g.Degree(c.id))
	case callSize:
		return fmt.Sprint(g.Size(c.id))
	case callTotal:
		return fmt.Sprint(g.Total(c.id))
	case callLeast:
		return fmt.Sprint(g.Least(c.id))
	case callMost:
		return fmt.Sprint(g.Most(c.id))
	case callRep:
		return fmt.Sprint(g.Rep(c.id))
	case callAround:
		return fmt.Sprint(g.Around(c.id))
	case callMembers:
		return fmt.Sprint(g.Members(c.name))
	}
	return ""
}

// questions are all that can be asked of some vertices and sets.
func questions(ids []int, names []string) []call {
	var all []call
	for which := callVertices; which < callsInAll; which++ {
		all = append(all, call{which: which})
	}
	for _, name := range names {
		all = append(all, call{which: callMembers, name: name})
	}
	for _, id := range ids {
		for which := callHas; which < callMembers; which++ {
			all = append(all, call{which: which, id: id})
		}
		for _, other := range ids {
			for which := callConnected; which < callVertices; which++ {
				all = append(all, call{which: which, u: id, v: other})
			}
		}
	}
	return all
}

// told is all that can be asked of a store, as a text: of what it lists, and of some vertices and sets more. (Of many vertices some are asked for: a plain store takes long.)
func told(g graph, ids []int, names ...string) string {
	ids = slices.Clone(ids)
	all := g.Vertices()
	for i, x := range all {
		if i%(1+len(all)/12) == 0 {
			ids = append(ids, x.ID)
		}
	}
	names = append(names, g.Sets()...)
	var answers []string
	for _, c := range questions(ids, names) {
		answers = append(answers, do(g, c))
	}
	return strings.Join(answers, "\n")
}
