package vset_test

import (
	"fmt"
	"regexp"
	"slices"
	"strings"

	"isthmus/api"
	"isthmus/vset"
)

// theWords are those of the language, as DOC.md lists them.
const theWords = "all and around block bottleneck connected count degree else false if in least max min most not or rep size some sum then total true value vertices"

// nameForm is what DOC.md says of the bytes of a name.
var nameForm = regexp.MustCompile(`\A[a-z][a-z0-9_]{0,11}\z`)

func plainName(text string) bool {
	return nameForm.MatchString(text) && !slices.Contains(strings.Fields(theWords), text)
}

// family is what both Families and plain ones can be asked.
type family interface {
	Add(name string) api.Errno
	Drop(name string) api.Errno
	Get(name string) (vset.Set, api.Errno)
	Lay(name string, s vset.Set) api.Errno
	Purge(n int) api.Errno
	Names() []string
	Same() [][]string
}

// member is a set of a plain family: the numbers that there are, rising.
type member struct {
	name    string
	numbers []int
}

// plain is a family by the words of the chapter: a list, in the order in which the sets came.
type plain struct {
	members []member
}

func (p *plain) find(name string) int {
	return slices.IndexFunc(p.members, func(m member) bool { return m.name == name })
}

func (p *plain) Add(name string) api.Errno {
	switch {
	case !plainName(name):
		return api.ErrSetName
	case p.find(name) >= 0:
		return api.ErrSetTwice
	case len(p.members) == 16:
		return api.ErrSetFull
	}
	p.members = append(p.members, member{name: name})
	return api.OK
}

func (p *plain) Drop(name string) api.Errno {
	i := p.find(name)
	if i < 0 {
		return api.ErrSetNone
	}
	p.members = slices.Delete(p.members, i, i+1)
	return api.OK
}

func (p *plain) Get(name string) (vset.Set, api.Errno) {
	i := p.find(name)
	if i < 0 {
		return vset.Set{}, api.ErrSetNone
	}
	return vset.Of(p.members[i].numbers...)
}

func (p *plain) Lay(name string, s vset.Set) api.Errno {
	i := p.find(name)
	if i < 0 {
		return api.ErrSetNone
	}
	p.members[i].numbers = s.All()
	return api.OK
}

func (p *plain) Purge(n int) api.Errno {
	if n < 0 || n > 63 {
		return api.ErrArg
	}
	for i, m := range p.members {
		p.members[i].numbers = slices.DeleteFunc(m.numbers, func(k int) bool { return k == n })
	}
	return api.OK
}

func (p *plain) Names() []string {
	var names []string
	for _, m := range p.members {
		names = append(names, m.name)
	}
	slices.SortFunc(names, func(a, b string) int { return slices.Compare([]byte(a), []byte(b)) })
	return names
}

func (p *plain) Same() [][]string {
	var groups [][]string
	names := p.Names()
	for i, first := range names {
		alike := func(name string) bool {
			return slices.Equal(p.members[p.find(name)].numbers, p.members[p.find(first)].numbers)
		}
		if slices.ContainsFunc(names[:i], alike) {
			continue
		}
		var group []string
		for _, name := range names[i:] {
			if alike(name) {
				group = append(group, name)
			}
		}
		groups = append(groups, group)
	}
	return groups
}

// The calls: those ahead of callGet change something.
const (
	callAdd = iota
	callDrop
	callLay
	callPurge
	callGet
	callNames
	callSame
	callsInAll
)

// call is one of the calls with its arguments, as far as it has them.
type call struct {
	which int
	name  string
	n     int
	set   vset.Set
}

// do makes a call; all that it answers, as a text.
func do(f family, c call) string {
	switch c.which {
	case callAdd:
		return fmt.Sprint(f.Add(c.name))
	case callDrop:
		return fmt.Sprint(f.Drop(c.name))
	case callLay:
		return fmt.Sprint(f.Lay(c.name, c.set))
	case callPurge:
		return fmt.Sprint(f.Purge(c.n))
	case callGet:
		s, e := f.Get(c.name)
		return fmt.Sprint(s.All(), e)
	case callNames:
		return fmt.Sprintf("%q", f.Names())
	case callSame:
		return fmt.Sprintf("%q", f.Same())
	}
	return ""
}

// told is all that can be asked of a family, as a text: of the sets that it names, and of some more.
func told(f family, more ...string) string {
	all := []string{do(f, call{which: callNames}), do(f, call{which: callSame})}
	for _, name := range append(f.Names(), more...) {
		all = append(all, name, do(f, call{which: callGet, name: name}))
	}
	return strings.Join(all, " ")
}
