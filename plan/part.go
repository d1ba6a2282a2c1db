package plan

// part is one of a right plan: what its node says, laid ready to be asked, in a type of its own for each way of asking.
type part interface {
	kind() int // of its worth
}

// typed is what all parts have.
type typed struct {
	is int
}

func (t typed) kind() int { return t.is }

type constant struct {
	typed
	n int
}

type vertex struct {
	typed
	id int
}

type variable struct {
	typed
	number int // of the quantifier that binds it
}

// operation is worth what its kids' worths come to, whatever the store has.
type operation struct {
	typed
	which int
	kids  []part
}

// connective asks its right kid only where the left one doesn't settle it.
type connective struct {
	typed
	settles     int // the worth of the left kid that is that of the whole, too
	left, right part
}

type choice struct {
	typed
	question, yes, no part
}

// call is worth what the store answers of its kids' worths.
type call struct {
	typed
	which int
	kids  []part
}

type quantifier struct {
	typed
	which     int
	around    int // how many others
	set, body part
}

type cell struct {
	typed
	number int
	kid    part
}

type allSet struct {
	typed
}

type namedSet struct {
	typed
	name string
}

type aroundSet struct {
	typed
	kid part
}

type listSet struct {
	typed
	kids []part
}
