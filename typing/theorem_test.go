package typing_test

import (
	"testing"

	"isthmus/api"
	"isthmus/syntax"
	"isthmus/typing"
)

// Of two trees that are alike but for their places the answers are alike, but for the place that is told: it is that of the same part.
func TestT2Places(t *testing.T) {
	next := numbers()
	d := drawing(6)
	counts := map[api.Errno]int{}
	for i := range 4000 {
		e := placed(d.of(1+i%3, 6, 4), 0)
		kind, err, place := typing.Check(e)
		counts[err]++
		other := copied(e)
		var places []int
		each(&other, func(x *api.Expr) {
			places = append(places, next(1<<40)-1<<39)
			x.At = places[len(places)-1]
		})
		if err == api.ErrTypeName || err == api.ErrTypeKind {
			place = places[place]
		}
		want(t, other, kind, err, place)
		each(&other, func(x *api.Expr) { x.At = 0 })
		want(t, other, kind, err, 0)
	}
	if counts[api.OK] < 300 || counts[api.ErrTypeName] < 300 || counts[api.ErrTypeKind] < 300 {
		t.Errorf("%v", counts)
	}
}

// spot is a part of a tree that is no set, and the names that are bound there.
type spot struct {
	part  *api.Expr
	bound []string
}

func spotsOf(e *api.Expr, bound []string) []spot {
	var all []spot
	if e.Kind < api.ESetAll {
		all = append(all, spot{e, bound})
	}
	for i := range e.Kids {
		within := bound
		if e.Kind == api.EQuant && i == 1 {
			within = append(append([]string{}, bound...), e.Name)
		}
		all = append(all, spotsOf(&e.Kids[i], within)...)
	}
	return all
}

// Where a part stands in a tree that is typed, any other one of its kind may, whose variables are bound there; and one of another kind changes the whole, or may not stand there.
func TestT2OtherParts(t *testing.T) {
	next := numbers()
	d := drawing(0)
	changed, refused := 0, 0
	for i := range 6000 {
		e := d.of(1+i%3, 5, 4)
		kind, err, _ := checked(t, e)
		if err != api.OK {
			continue
		}
		spots := spotsOf(&e, nil)
		s := spots[next(len(spots))]
		was := plainKind(*s.part)
		quants := 4 - len(s.bound)
		old := *s.part
		d.names = s.bound
		*s.part = d.of(was, 3, quants)
		d.names = nil
		if syntax.Right(e) {
			want(t, e, kind, api.OK, 0)
			changed++
		}
		*s.part = samples()[1+was%3]
		if _, err, _ := checked(t, e); err != api.OK {
			refused++
		}
		*s.part = old
		want(t, e, kind, api.OK, 0)
	}
	if changed < 3000 || refused < 2000 {
		t.Errorf("%d were changed, %d refused", changed, refused)
	}
}

// A variable that is not bound at a place may not stand there, whatever is of its kind.
func TestT2OtherVariables(t *testing.T) {
	next := numbers()
	d := drawing(0)
	many := 0
	for i := range 6000 {
		e := d.of(1+i%3, 5, 4)
		spots := spotsOf(&e, nil)
		s := spots[next(len(spots))]
		if plainKind(*s.part) != api.KindVertex || !syntax.Right(e) {
			continue
		}
		*s.part = at(9, name("nobody"))
		if syntax.Right(e) {
			want(t, e, 0, api.ErrTypeName, 9)
			many++
		}
	}
	if many < 500 {
		t.Errorf("%d", many)
	}
}

// Whatever is typed stays so within another quantifier, whichever its name; and what a kid is by itself, it is where it stands.
func TestT2Around(t *testing.T) {
	d := drawing(0)
	many := 0
	for i := range 3000 {
		e := d.of(1+i%3, 5, 3)
		kind, err, _ := checked(t, e)
		if err != api.OK {
			continue
		}
		body := of(api.EIf, of(api.EEq, e, e), boolean(1), boolean(0))
		for _, variable := range d.anyone {
			if whole := quant(api.QuantCount, variable, of(api.ESetAll), body); syntax.Right(whole) {
				want(t, whole, api.KindInt, api.OK, 0)
				many++
			}
		}
		if whole := of(api.EIf, boolean(1), e, e); syntax.Right(whole) {
			want(t, whole, kind, api.OK, 0)
		}
	}
	if many < 3000 {
		t.Errorf("%d", many)
	}
}
