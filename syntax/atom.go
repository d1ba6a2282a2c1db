package syntax

import "isthmus/api"

// atom reads what is told by its first token.
func (r *reader) atom() api.Expr {
	t := r.token()
	switch t.Kind {
	case api.TokenNumber:
		return api.Expr{Kind: api.EInt, N: r.passKind(t.Kind).N, At: t.At}
	case api.TokenName:
		return api.Expr{Kind: api.EName, Name: r.passKind(t.Kind).Text, At: t.At}
	}
	switch t.Text {
	case "false":
		return api.Expr{Kind: api.EBool, At: r.pass("false")}
	case "true":
		return api.Expr{Kind: api.EBool, N: 1, At: r.pass("true")}
	case "@":
		at := r.pass("@")
		return api.Expr{Kind: api.EVertex, N: r.passKind(api.TokenNumber).N, At: at}
	case "(":
		return r.arguments(1)[0]
	case "if":
		return r.choice()
	}
	if c, is := callAt(t.Text); is {
		at := r.pass(c.word)
		return api.Expr{Kind: api.ECall, N: c.n, Kids: r.arguments(c.arguments), At: at}
	}
	if q, is := quantifierAt(t.Text); is {
		return r.quantified(q)
	}
	panic(r.refused(api.ErrSyntaxToken))
}

// arguments reads so many parts in parentheses.
func (r *reader) arguments(many int) []api.Expr {
	r.enter("(")
	kids := []api.Expr{r.query()}
	for len(kids) < many {
		r.pass(",")
		kids = append(kids, r.query())
	}
	r.pass(")")
	r.leave()
	return kids
}

func (r *reader) choice() api.Expr {
	at := r.enter("if")
	asked := r.query()
	r.pass("then")
	yes := r.query()
	r.pass("else")
	no := r.query()
	r.leave()
	return api.Expr{Kind: api.EIf, Kids: []api.Expr{asked, yes, no}, At: at}
}

func (r *reader) quantified(q quantifier) api.Expr {
	if r.quants == api.MaxQuants {
		panic(r.refused(api.ErrSyntaxDeep))
	}
	r.quants++
	at := r.enter(q.word)
	name := r.passKind(api.TokenName).Text
	r.pass("in")
	set := r.set()
	r.pass(":")
	body := r.query()
	r.leave()
	r.quants--
	return api.Expr{Kind: api.EQuant, N: q.n, Name: name, Kids: []api.Expr{set, body}, At: at}
}

func (r *reader) set() api.Expr {
	t := r.token()
	if t.Kind == api.TokenName {
		return api.Expr{Kind: api.ESetName, Name: r.passKind(t.Kind).Text, At: t.At}
	}
	switch t.Text {
	case "vertices":
		return api.Expr{Kind: api.ESetAll, At: r.pass("vertices")}
	case "around":
		at := r.pass("around")
		return api.Expr{Kind: api.ESetAround, Kids: r.arguments(1), At: at}
	}
	at := r.enter("{")
	kids := r.members()
	r.pass("}")
	r.leave()
	return api.Expr{Kind: api.ESetList, Kids: kids, At: at}
}

// members reads the parts between braces, perhaps none.
func (r *reader) members() []api.Expr {
	if r.has("}") {
		return nil
	}
	kids := []api.Expr{r.query()}
	for r.has(",") {
		r.pass(",")
		kids = append(kids, r.query())
	}
	return kids
}
