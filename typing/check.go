package typing

import (
	"slices"

	"isthmus/api"
)

// checker goes through the parts of a right tree, and asks the rule of each.
type checker struct {
	rules []rule
}

// check is the kind of a part that stands where these names are bound; or the first thing that is wrong in it, and its place.
func (c checker) check(e api.Expr, bound []string) (int, api.Errno, int) {
	if e.Kind == api.EName && !slices.Contains(bound, e.Name) {
		return 0, api.ErrTypeName, e.At
	}
	tell := c.rules[e.Kind]
	var done []int
	for i, kid := range e.Kids {
		must := tell(e, done)
		is, fault, at := c.check(kid, boundIn(e, i, bound))
		if fault != api.OK {
			return 0, fault, at
		}
		if must != anyKind && is != must {
			return 0, api.ErrTypeKind, kid.At
		}
		done = append(done, is)
	}
	return tell(e, done), api.OK, 0
}

// boundIn is the names that are bound in a part's kid: a quantifier's own in its body alone, for its set is there ahead of the variable.
func boundIn(e api.Expr, kid int, bound []string) []string {
	if e.Kind != api.EQuant || kid == 0 {
		return bound
	}
	return append(slices.Clone(bound), e.Name)
}
