package vset

import (
	"maps"
	"slices"

	"isthmus/api"
)

// Family is sets by names.
type Family struct {
	sets map[string]Set
}

// NewFamily has none.
func NewFamily() *Family {
	return &Family{sets: map[string]Set{}}
}

// Add makes an empty set of a name.
func (f *Family) Add(name string) api.Errno {
	if !isName(name) {
		return api.ErrSetName
	}
	if f.has(name) {
		return api.ErrSetTwice
	}
	if len(f.sets) >= api.MaxSets {
		return api.ErrSetFull
	}
	f.sets[name] = Set{}
	return api.OK
}

// Drop takes one away.
func (f *Family) Drop(name string) api.Errno {
	if !f.has(name) {
		return api.ErrSetNone
	}
	delete(f.sets, name)
	return api.OK
}

// Get is the set of a name.
func (f *Family) Get(name string) (Set, api.Errno) {
	if !f.has(name) {
		return Set{}, api.ErrSetNone
	}
	return f.sets[name], api.OK
}

// Lay lays another one there.
func (f *Family) Lay(name string, s Set) api.Errno {
	if !f.has(name) {
		return api.ErrSetNone
	}
	f.sets[name] = s
	return api.OK
}

// Purge takes a number out of all of them.
func (f *Family) Purge(n int) api.Errno {
	if !right(n) {
		return api.ErrArg
	}
	for _, name := range f.Names() {
		f.sets[name] = f.sets[name].Minus(single(n))
	}
	return api.OK
}

// Names are those that there are, rising; Same are the groups of names whose sets are alike.
func (f *Family) Names() []string {
	return slices.Sorted(maps.Keys(f.sets))
}

func (f *Family) Same() [][]string {
	var groups [][]string
	places := map[Set]int{} // of each set the place of its group
	for _, name := range f.Names() {
		s := f.sets[name]
		place, is := places[s]
		if !is {
			place = len(groups)
			places[s] = place
			groups = append(groups, nil)
		}
		groups[place] = append(groups[place], name)
	}
	return groups
}

// has asks whether there is a set of a name.
func (f *Family) has(name string) bool {
	_, is := f.sets[name]
	return is
}
