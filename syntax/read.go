package syntax

import "isthmus/api"

// reader goes over tokens, the last of which is the end and is never passed.
type reader struct {
	tokens []api.Token
	next   int
	open   int // openings that are open
	quants int // those of them that are quantifiers
}

// refusal is what a reader gives up with: what is wrong, and where.
type refusal struct {
	e  api.Errno
	at int
}

func read(tokens []api.Token) (tree api.Expr, e api.Errno, at int) {
	defer func() {
		if why := recover(); why != nil {
			no := why.(refusal)
			tree, e, at = api.Expr{}, no.e, no.at
		}
	}()
	r := &reader{tokens: tokens}
	tree = r.query()
	if r.token().Kind != api.TokenEnd {
		panic(r.refused(api.ErrSyntaxToken))
	}
	return tree, api.OK, 0
}

func (r *reader) token() api.Token { return r.tokens[r.next] }

func (r *reader) refused(e api.Errno) refusal { return refusal{e, r.token().At} }

// has asks for a word or a sign; no name has the text of one.
func (r *reader) has(text string) bool { return r.token().Text == text }

// pass goes over a word or a sign that must be there, and tells its place.
func (r *reader) pass(text string) int {
	if !r.has(text) {
		panic(r.refused(api.ErrSyntaxToken))
	}
	return r.passKind(r.token().Kind).At
}

func (r *reader) passKind(kind int) api.Token {
	t := r.token()
	if t.Kind != kind {
		panic(r.refused(api.ErrSyntaxToken))
	}
	r.next++
	return t
}

// enter passes an opening, which is open till leave.
func (r *reader) enter(text string) int {
	if r.has(text) && r.open == api.MaxNest {
		panic(r.refused(api.ErrSyntaxDeep))
	}
	r.open++
	return r.pass(text)
}

func (r *reader) leave() { r.open-- }

func (r *reader) query() api.Expr { return r.part(rowOr) }

// part reads what may stand where a row is asked for.
func (r *reader) part(row int) api.Expr {
	switch row {
	case rowNot:
		return r.prefixed("not", api.ENot, row)
	case rowNegative:
		return r.prefixed("-", api.ENeg, row)
	case rowAtom:
		return r.atom()
	}
	return r.chain(row)
}

func (r *reader) chain(row int) api.Expr {
	left := r.part(row + 1)
	for {
		o, is := operatorAt(r.token().Text, row)
		if !is {
			return left
		}
		at := r.pass(o.text)
		right := r.part(o.right)
		left = api.Expr{Kind: o.kind, Kids: []api.Expr{left, right}, At: at}
		if row < o.left { // what is read is no left part of another one
			return left
		}
	}
}

func (r *reader) prefixed(text string, kind, row int) api.Expr {
	if !r.has(text) {
		return r.part(row + 1)
	}
	at := r.enter(text)
	kid := r.part(row)
	r.leave()
	return api.Expr{Kind: kind, Kids: []api.Expr{kid}, At: at}
}
