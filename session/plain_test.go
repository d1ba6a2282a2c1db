package session_test

import (
	"fmt"
	"maps"
	"math/big"
	"regexp"
	"slices"
	"strings"

	"isthmus/api"
	"isthmus/code"
	"isthmus/engine"
	"isthmus/guard"
	"isthmus/lex"
	"isthmus/plan"
	"isthmus/store"
)

// A plain session: rows by regular expressions, a graph in maps, whose facts are found out when they are asked; what a query is worth is asked of a store that is made for it alone.

// row is the table's rows but for the bounds of numbers and names.
var row = regexp.MustCompile(strings.NewReplacer("NAME", `([^ \n]+)`, "N", `(?:0|-?[1-9][0-9]*)`).Replace(
	`^(?:(?:graph|vertex|value|weight) N N|(?:unvertex|unedge|fuel|around) N|edge N N N N|(?:set|unset|members) NAME|(?:put|take) NAME N|passes (?:-|[0-9]{1,9})|(ask|mean|code|text) .+|vertices|edges|forest|bridges)$`))

// mayBe asks whether a line's text may be one.
func mayBe(text string) bool {
	found := row.FindStringSubmatch(text)
	return found != nil && len(text) <= 2100 && len(found[1]) <= 20 && len(found[2]) <= 20 && (found[3] != "" || numbersFit(text))
}

// numbersFit asks whether all numbers of a line lie between the least and the greatest one (a name or passes may look like one).
func numbersFit(text string) bool {
	parts := strings.Split(text, " ")[1:]
	if slices.Contains([]string{"set", "unset", "put", "take", "members", "passes"}, strings.Split(text, " ")[0]) {
		parts = parts[1:]
	}
	bound := new(big.Int).Lsh(big.NewInt(1), 62)
	for _, part := range parts {
		n, _ := new(big.Int).SetString(part, 10)
		if n.Cmp(new(big.Int).Neg(bound)) < 0 || n.Cmp(bound) >= 0 {
			return false
		}
	}
	return true
}

// plainRun is Run of the plain session.
func plainRun(text string) (string, api.Errno, int) {
	lines := strings.Split(text, "\n")
	last := lines[len(lines)-1]
	lines = lines[:len(lines)-1]
	if len(lines) > 120 || len(lines) == 120 && last != "" {
		return "", api.ErrSessionLong, 0
	}
	for i, l := range lines {
		if !mayBe(l) {
			return "", api.ErrSessionLine, i + 1
		}
	}
	if last != "" || len(lines) == 0 {
		return "", api.ErrSessionLine, len(lines) + 1
	}
	p := plainSession{fuel: 100000}
	told := ""
	for _, l := range lines {
		told += p.tell(l) + "\n"
	}
	return told, api.OK, 0
}

type plainSession struct {
	graph  *plainGraph
	fuel   int
	passes []int
}

func (p *plainSession) tell(text string) string {
	word, rest, _ := strings.Cut(text, " ")
	var n []int
	for _, part := range strings.Split(rest, " ") {
		var x int
		fmt.Sscan(part, &x)
		n = append(n, x)
	}
	switch word {
	case "graph":
		if n[0] < 1 || n[0] > 64 || n[1] < 0 || n[1] > 192 {
			return "error 1"
		}
		p.graph = &plainGraph{rooms: [2]int{n[0], n[1]}, vertices: map[int]int{}, edges: map[int]api.Edge{}, sets: map[string]map[int]bool{}}
		return "ok"
	case "fuel":
		p.fuel = n[0]
		return "ok"
	case "passes":
		p.passes = nil
		for _, digit := range strings.Trim(rest, "-") {
			p.passes = append(p.passes, int(digit-'0'))
		}
		return "ok"
	case "code", "text":
		return p.query(word, rest, p.passes)
	}
	if p.graph == nil {
		return "nothing"
	}
	switch word {
	case "ask":
		return p.query(word, rest, p.passes)
	case "mean":
		return p.query(word, rest, nil)
	}
	return p.graph.tell(word, strings.Split(rest+" ", " ")[0], n)
}

func (p *plainSession) query(word, text string, passes []int) string {
	q, e, at := engine.Compile(text, passes)
	if e != api.OK {
		return fmt.Sprintf("error %d at %d", e, at)
	}
	var a api.Answer
	var took int
	switch word {
	case "ask":
		a, took = q.Ask(p.graph.store(), p.fuel)
	case "mean":
		a, took = plan.Ask(q.Plan(), p.graph.store(), p.fuel)
	case "text":
		return q.Text()
	case "code":
		vertices := 0
		if p.graph != nil {
			vertices = len(p.graph.vertices)
		}
		c := q.Code()
		limits, _, _ := guard.Verify(c)
		return fmt.Sprintf("words %d stack %d rounds %d bound %d sum %d", len(c.Words), limits.Stack, limits.Rounds, guard.Bound(len(c.Words), limits.Rounds, vertices), code.Sum(c)%(1<<32))
	}
	switch {
	case a.Fault > 0:
		return fmt.Sprintf("fault %d %d", a.Fault, took)
	case a.Kind == api.KindBool:
		return fmt.Sprintf("%v %d", a.N != 0, took)
	}
	return fmt.Sprintf("%s %d %d", []string{"", "int", "", "vertex"}[a.Kind], a.N, took)
}

type plainGraph struct {
	rooms    [2]int
	vertices map[int]int
	edges    map[int]api.Edge
	sets     map[string]map[int]bool
}

// store is one that has what the graph has, made in another order than the session's was.
func (g *plainGraph) store() *store.Store {
	s, _ := store.New(64, 192)
	for _, name := range slices.Backward(slices.Sorted(maps.Keys(g.sets))) {
		s.AddSet(name)
	}
	for _, id := range slices.Backward(slices.Sorted(maps.Keys(g.vertices))) {
		s.AddVertex(id, g.vertices[id])
		for name, set := range g.sets {
			if set[id] {
				s.Put(name, id)
			}
		}
	}
	for _, id := range slices.Backward(slices.Sorted(maps.Keys(g.edges))) {
		s.AddEdge(id, g.edges[id].V, g.edges[id].U, g.edges[id].Weight)
	}
	return s
}

// tell is what a line tells that speaks of the graph.
func (g *plainGraph) tell(word, name string, n []int) string {
	switch word {
	case "vertices":
		told := word
		for _, id := range slices.Sorted(maps.Keys(g.vertices)) {
			told += fmt.Sprintf(" %d:%d", id, g.vertices[id])
		}
		return told
	case "edges":
		told := word
		for _, id := range slices.Sorted(maps.Keys(g.edges)) {
			ends := []int{g.edges[id].U, g.edges[id].V}
			slices.Sort(ends)
			told += fmt.Sprintf(" %d:%d-%d:%d", id, ends[0], ends[1], g.edges[id].Weight)
		}
		return told
	case "forest":
		return g.apart(word, func(x, y api.Edge) bool {
			return x.Weight < y.Weight || x.Weight == y.Weight && x.ID < y.ID
		})
	case "bridges":
		return g.apart(word, func(x, y api.Edge) bool { return x.ID != y.ID })
	case "members":
		if g.sets[name] == nil {
			return "error 93"
		}
		return ids(word, g.sets[name])
	case "around":
		if !g.has(n[0]) {
			return "error 102"
		}
		return ids(word, g.reach(n[0], func(api.Edge) bool { return true }))
	}
	if e := g.change(word, name, n); e != api.OK {
		return fmt.Sprintf("error %d", e)
	}
	return "ok"
}

// apart is each edge between whose ends there is no way over the edges that count beside it.
func (g *plainGraph) apart(word string, counts func(x, y api.Edge) bool) string {
	all := map[int]bool{}
	for id, y := range g.edges {
		if !g.reach(y.U, func(x api.Edge) bool { return counts(x, y) })[y.V] {
			all[id] = true
		}
	}
	return ids(word, all)
}

// reach is all vertices to which there is a way over the edges that count.
func (g *plainGraph) reach(from int, counts func(api.Edge) bool) map[int]bool {
	been := map[int]bool{from: true}
	for many := 0; many < len(been); {
		many = len(been)
		for _, x := range g.edges {
			if counts(x) && (been[x.U] || been[x.V]) {
				been[x.U], been[x.V] = true, true
			}
		}
	}
	return been
}

func ids(word string, all map[int]bool) string {
	for _, id := range slices.Sorted(maps.Keys(all)) {
		word += fmt.Sprintf(" %d", id)
	}
	return word
}

func (g *plainGraph) has(id int) bool {
	_, ok := g.vertices[id]
	return ok
}

func fitsID(id int) bool { return id >= 0 && id <= 1<<40 }

func fitsValue(n int) bool { return n >= -1<<40 && n <= 1<<40 }

// change is the first error of chapter 10's promises, or OK and what they say.
func (g *plainGraph) change(word, name string, n []int) api.Errno {
	switch word {
	case "vertex", "unvertex", "value":
		return g.changeVertex(word, append(n, 0)[0], append(n, 0, 0)[1])
	case "edge":
		return g.addEdge(api.Edge{ID: n[0], U: n[1], V: n[2], Weight: n[3]})
	case "unedge", "weight":
		return g.changeEdge(word, n)
	}
	return g.changeSet(word, name, n)
}

func (g *plainGraph) changeVertex(word string, id, value int) api.Errno {
	degree := 0
	for _, x := range g.edges {
		if x.U == id || x.V == id {
			degree++
		}
	}
	switch {
	case word == "vertex" && (!fitsID(id) || !fitsValue(value)):
		return api.ErrArg
	case word == "vertex" && g.has(id):
		return api.ErrStoreTwice
	case word == "vertex" && len(g.vertices) == g.rooms[0]:
		return api.ErrStoreFull
	case word != "vertex" && !g.has(id):
		return api.ErrStoreNone
	case word == "unvertex" && degree > 0:
		return api.ErrStoreBusy
	case word == "value" && !fitsValue(value):
		return api.ErrArg
	case word == "unvertex":
		delete(g.vertices, id)
		for _, set := range g.sets {
			delete(set, id)
		}
	default:
		g.vertices[id] = value
	}
	return api.OK
}

func (g *plainGraph) addEdge(x api.Edge) api.Errno {
	_, twice := g.edges[x.ID]
	switch {
	case !fitsID(x.ID) || !fitsValue(x.Weight):
		return api.ErrArg
	case twice:
		return api.ErrStoreTwice
	case !g.has(x.U) || !g.has(x.V):
		return api.ErrStoreNone
	case x.U == x.V:
		return api.ErrStoreLoop
	case len(g.edges) == g.rooms[1]:
		return api.ErrStoreFull
	}
	g.edges[x.ID] = x
	return api.OK
}

func (g *plainGraph) changeEdge(word string, n []int) api.Errno {
	x, ok := g.edges[n[0]]
	switch {
	case !ok:
		return api.ErrStoreNone
	case word == "unedge":
		delete(g.edges, n[0])
		return api.OK
	case !fitsValue(n[1]):
		return api.ErrArg
	}
	x.Weight = n[1]
	g.edges[n[0]] = x
	return api.OK
}

func (g *plainGraph) changeSet(word, name string, n []int) api.Errno {
	set, ok := g.sets[name]
	switch {
	case word == "set" && !lex.IsName(name):
		return api.ErrSetName
	case word == "set" && ok:
		return api.ErrSetTwice
	case word == "set" && len(g.sets) == 16:
		return api.ErrSetFull
	case word == "set":
		g.sets[name] = map[int]bool{}
		return api.OK
	case !ok:
		return api.ErrSetNone
	case word == "unset":
		delete(g.sets, name)
		return api.OK
	case !g.has(n[1]):
		return api.ErrStoreNone
	case word == "put":
		set[n[1]] = true
	default:
		delete(set, n[1])
	}
	return api.OK
}
