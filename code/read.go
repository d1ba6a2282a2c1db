package code

import (
	"isthmus/api"
	"isthmus/pack"
)

// mostSevens is how many bytes a number has at most.
const mostSevens = 10

// reader takes bytes from the front. Once something can't be read nothing is left, so that all that follows can't be read either.
type reader struct {
	rest  []byte
	wrong bool
}

// code is what stands ahead of the sum; whether it is right is not asked here.
func (r *reader) code() api.Code {
	if string(r.take(len(mark))) != mark {
		r.giveUp()
	}
	var c api.Code
	c.Words = list(r, api.MaxWords, r.number)
	c.Consts = list(r, mostConsts, r.constant)
	c.Names = list(r, mostNames, r.name)
	c.Cells = list(r, api.MaxCells, r.kind)
	return c
}

// list reads how many there are, and each one.
func list[T any](r *reader, most int, one func() T) []T {
	var all []T
	for range r.atMost(most) {
		all = append(all, one())
	}
	return all
}

// atMost is the next number, held against the greatest that it may be ahead of its use: a text of few bytes can tell of 2^64 things.
func (r *reader) atMost(most int) int {
	u := r.number()
	if u > uint64(most) {
		r.giveUp()
		return 0
	}
	return int(u)
}

func (r *reader) number() uint64 {
	u, took, e := pack.Take(string(r.front(mostSevens)))
	if e != api.OK {
		r.giveUp()
		return 0
	}
	r.rest = r.rest[took:]
	return u
}

func (r *reader) constant() int { return int(pack.Zag(r.number())) }

func (r *reader) name() string { return string(r.take(r.atMost(api.MaxName))) }

func (r *reader) kind() int { return r.atMost(api.KindVertex) }

// take is the next n bytes, which are gone then.
func (r *reader) take(n int) []byte {
	piece := r.front(n)
	if len(piece) < n {
		r.giveUp()
		return nil
	}
	r.rest = r.rest[n:]
	return piece
}

// front is the next n bytes, or as many as are left. The third index ends its room where it ends, so that nobody can reach from it into what is still to be read.
func (r *reader) front(n int) []byte {
	n = min(n, len(r.rest))
	return r.rest[0:n:n]
}

func (r *reader) giveUp() {
	r.rest, r.wrong = nil, true
}
