package splay_test

import (
	"fmt"
	"slices"

	"isthmus/api"
)

// forest is what both a forest and a plain one can be asked.
type forest interface {
	Make(x api.Item) (int, api.Errno)
	Free(h int) api.Errno
	Get(h int) (api.Item, api.Errno)
	Set(h int, x api.Item) api.Errno
	Join(a, b int) api.Errno
	Split(h int) api.Errno
	Same(a, b int) (bool, api.Errno)
	Rank(h int) (int, api.Errno)
	At(h, n int) (int, api.Errno)
	Sum(h int) (api.Agg, api.Errno)
	Flagged(h, flags int) (int, api.Errno)
	All(h int) ([]int, api.Errno)
}

// plain is a forest by the words of the chapter: its sequences are lists.
type plain struct {
	room, given int
	dropped     []int
	items       map[int]api.Item
	rows        [][]int
}

func newPlain(room int) *plain { return &plain{room: room, items: map[int]api.Item{}} }

func right(x api.Item) bool {
	return -1<<40 <= x.Value && x.Value <= 1<<40 && 0 <= x.Flags && x.Flags < 256
}

// find tells in which row a node stands, and where in it.
func (p *plain) find(h int) (int, int, bool) {
	for i, row := range p.rows {
		if j := slices.Index(row, h); j >= 0 {
			return i, j, true
		}
	}
	return 0, 0, false
}

func (p *plain) Make(x api.Item) (int, api.Errno) {
	if !right(x) {
		return 0, api.ErrArg
	}
	if len(p.items) == p.room {
		return 0, api.ErrSplayFull
	}
	h := p.given + 1
	if last := len(p.dropped) - 1; last >= 0 {
		h = p.dropped[last]
		p.dropped = p.dropped[:last]
	} else {
		p.given++
	}
	p.items[h] = x
	p.rows = append(p.rows, []int{h})
	return h, api.OK
}

func (p *plain) Free(h int) api.Errno {
	i, _, is := p.find(h)
	if !is {
		return api.ErrSplayNone
	}
	if len(p.rows[i]) > 1 {
		return api.ErrSplayBusy
	}
	p.rows = slices.Delete(p.rows, i, i+1)
	delete(p.items, h)
	p.dropped = append(p.dropped, h)
	return api.OK
}

func (p *plain) Get(h int) (api.Item, api.Errno) {
	if _, _, is := p.find(h); !is {
		return api.Item{}, api.ErrSplayNone
	}
	return p.items[h], api.OK
}

func (p *plain) Set(h int, x api.Item) api.Errno {
	if _, _, is := p.find(h); !is {
		return api.ErrSplayNone
	}
	if !right(x) {
		return api.ErrArg
	}
	p.items[h] = x
	return api.OK
}

func (p *plain) Join(a, b int) api.Errno {
	i, _, isA := p.find(a)
	j, _, isB := p.find(b)
	if !isA || !isB {
		return api.ErrSplayNone
	}
	if i == j {
		return api.ErrSplaySame
	}
	p.rows[i] = slices.Concat(p.rows[i], p.rows[j])
	p.rows = slices.Delete(p.rows, j, j+1)
	return api.OK
}

func (p *plain) Split(h int) api.Errno {
	i, j, is := p.find(h)
	if !is {
		return api.ErrSplayNone
	}
	if j > 0 {
		row := p.rows[i]
		p.rows[i] = slices.Clone(row[:j])
		p.rows = append(p.rows, slices.Clone(row[j:]))
	}
	return api.OK
}

func (p *plain) Same(a, b int) (bool, api.Errno) {
	i, _, isA := p.find(a)
	j, _, isB := p.find(b)
	if !isA || !isB {
		return false, api.ErrSplayNone
	}
	return i == j, api.OK
}

func (p *plain) Rank(h int) (int, api.Errno) {
	_, j, is := p.find(h)
	if !is {
		return 0, api.ErrSplayNone
	}
	return j, api.OK
}

func (p *plain) At(h, n int) (int, api.Errno) {
	i, _, is := p.find(h)
	if !is {
		return 0, api.ErrSplayNone
	}
	if n < 0 || n >= len(p.rows[i]) {
		return 0, api.ErrSplayRank
	}
	return p.rows[i][n], api.OK
}

func (p *plain) Sum(h int) (api.Agg, api.Errno) {
	i, _, is := p.find(h)
	if !is {
		return api.Agg{}, api.ErrSplayNone
	}
	var a api.Agg
	var values []int
	for _, h := range p.rows[i] {
		x := p.items[h]
		a.Flags |= x.Flags
		if x.Counts {
			values = append(values, x.Value)
			a.Sum += x.Value
		}
	}
	if a.Count = len(values); a.Count > 0 {
		a.Least, a.Most = slices.Min(values), slices.Max(values)
	}
	return a, api.OK
}

func (p *plain) Flagged(h, flags int) (int, api.Errno) {
	i, _, is := p.find(h)
	if !is {
		return 0, api.ErrSplayNone
	}
	if flags < 0 || flags > 255 {
		return 0, api.ErrArg
	}
	for _, h := range p.rows[i] {
		if p.items[h].Flags&flags != 0 {
			return h, api.OK
		}
	}
	return 0, api.ErrSplayFlag
}

func (p *plain) All(h int) ([]int, api.Errno) {
	i, _, is := p.find(h)
	if !is {
		return nil, api.ErrSplayNone
	}
	return slices.Clone(p.rows[i]), api.OK
}

// The calls: those up to callSplit change something.
const (
	callMake = iota
	callFree
	callSet
	callJoin
	callSplit
	callGet
	callSame
	callRank
	callAt
	callSum
	callFlagged
	callAll
	callsInAll
)

// call is one of the calls with its arguments: a, and b or x, if it has more than one.
type call struct {
	which, a, b int
	x           api.Item
}

// do makes a call; all that it answers, as a text.
func do(f forest, c call) string {
	switch c.which {
	case callMake:
		return fmt.Sprint(f.Make(c.x))
	case callFree:
		return fmt.Sprint(f.Free(c.a))
	case callSet:
		return fmt.Sprint(f.Set(c.a, c.x))
	case callJoin:
		return fmt.Sprint(f.Join(c.a, c.b))
	case callSplit:
		return fmt.Sprint(f.Split(c.a))
	case callGet:
		return fmt.Sprint(f.Get(c.a))
	case callSame:
		return fmt.Sprint(f.Same(c.a, c.b))
	case callRank:
		return fmt.Sprint(f.Rank(c.a))
	case callAt:
		return fmt.Sprint(f.At(c.a, c.b))
	case callSum:
		return fmt.Sprint(f.Sum(c.a))
	case callFlagged:
		return fmt.Sprint(f.Flagged(c.a, c.b))
	case callAll:
		return fmt.Sprint(f.All(c.a))
	}
	return ""
}
