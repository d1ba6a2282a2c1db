package session

import (
	"strconv"
	"strings"

	"isthmus/api"
	"isthmus/code"
	"isthmus/engine"
	"isthmus/plan"
	"isthmus/store"
)

const firstFuel = 100000

// session is what lines are told by, and what they change.
type session struct {
	store  *store.Store // nil, as long as there is none
	fuel   int
	passes []int
}

// tell is what a line tells.
func (s *session) tell(l line) string {
	switch l.word {
	case "graph":
		return done(s.open(l.numbers[0], l.numbers[1]))
	case "fuel":
		s.fuel = l.numbers[0]
		return done(api.OK)
	case "passes":
		s.passes = l.passes
		return done(api.OK)
	case "code", "text":
		return s.question(l)
	}
	if s.store == nil {
		return "nothing"
	}
	switch l.word {
	case "ask", "mean":
		return s.question(l)
	case "vertices", "edges", "forest", "bridges", "members", "around":
		return s.list(l)
	}
	return done(s.change(l))
}

// open lays a new store in the place of the old one.
func (s *session) open(vertices, edges int) api.Errno {
	opened, e := store.New(vertices, edges)
	if e == api.OK {
		s.store = opened
	}
	return e
}

// change does to the store what a line says.
func (s *session) change(l line) api.Errno {
	n := l.numbers
	switch l.word {
	case "vertex":
		return s.store.AddVertex(n[0], n[1])
	case "unvertex":
		return s.store.DropVertex(n[0])
	case "value":
		return s.store.SetValue(n[0], n[1])
	case "edge":
		return s.store.AddEdge(n[0], n[1], n[2], n[3])
	case "unedge":
		return s.store.DropEdge(n[0])
	case "weight":
		return s.store.SetWeight(n[0], n[1])
	case "set":
		return s.store.AddSet(l.name)
	case "unset":
		return s.store.DropSet(l.name)
	case "put":
		return s.store.Put(l.name, n[0])
	default: // what is left is take
		return s.store.Take(l.name, n[0])
	}
}

// list tells all there is of what a line names.
func (s *session) list(l line) string {
	var ids []int
	e := api.OK
	switch l.word {
	case "vertices":
		return listed(l.word, s.store.Vertices(), vertexText)
	case "edges":
		return listed(l.word, s.store.Edges(), edgeText)
	case "forest":
		ids = s.store.Forest()
	case "bridges":
		ids = s.store.Bridges()
	case "members":
		ids, e = s.store.Members(l.name)
	case "around":
		ids, e = s.store.Around(l.numbers[0])
	}
	if e != api.OK {
		return refused(e)
	}
	return listed(l.word, ids, strconv.Itoa)
}

// question tells of a line's query what its word asks: what it is worth, or what it is made of.
func (s *session) question(l line) string {
	passes := s.passes
	if l.word == "mean" {
		passes = nil
	}
	q, e, at := engine.Compile(l.query, passes)
	if e != api.OK {
		return refused(e) + " at " + strconv.Itoa(at)
	}
	switch l.word {
	case "ask":
		return answered(q.Ask(s.store, s.fuel))
	case "mean":
		return answered(plan.Ask(q.Plan(), s.store, s.fuel))
	case "code":
		return s.measures(q)
	default: // what is left is text
		return q.Text()
	}
}

// measures tells a query's code by its numbers.
func (s *session) measures(q *engine.Query) string {
	vertices := 0
	if s.store != nil {
		vertices = len(s.store.Vertices())
	}
	c, limits := q.Code(), q.Limits()
	sum := int(uint32(code.Sum(c)))
	return strings.Join([]string{
		"words", strconv.Itoa(len(c.Words)),
		"stack", strconv.Itoa(limits.Stack),
		"rounds", strconv.Itoa(limits.Rounds),
		"bound", strconv.Itoa(q.Bound(vertices)),
		"sum", strconv.Itoa(sum),
	}, " ")
}
