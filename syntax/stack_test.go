package syntax_test

import (
	"slices"

	"isthmus/api"
	"isthmus/lex"
)

// frame is a part that has begun and waits for a kid: it is asked for a row.
type frame struct {
	part    api.Expr
	asked   int
	opening bool
	stage   int  // how many words of its own (`then`, `else`, `:`) were passed
	bracket bool // something closes it: `)`, `}`
}

// plainReading is what a text is read as: its tree, or what is wrong; how much was open at most.
type plainReading struct {
	tree         api.Expr
	e            api.Errno
	at           int
	open, quants int
}

// stackReader reads without calling itself: what has begun stands on a stack, and is done as soon as the next token can't be of it.
type stackReader struct {
	plainReading
	tokens         []api.Token
	next           int
	stack          []frame
	nest, maxQuant int // the limits
	have           bool
	kid            api.Expr // what was read last, if have
	row            int      // and its row in the text: of what stands in parentheses, and of what goes on as far as it can, 8
}

func plainRead(s string, nest, quants int) plainReading {
	tokens, e, at := lex.Scan(s)
	if e != api.OK {
		return plainReading{e: e, at: at}
	}
	r := &stackReader{tokens: tokens, nest: nest, maxQuant: quants}
	for r.e == api.OK && r.next < len(tokens) {
		if r.have {
			r.goOn()
		} else {
			r.begin()
		}
	}
	return r.plainReading
}

func (r *stackReader) fail(e api.Errno) {
	r.plainReading = plainReading{e: e, at: r.tokens[r.next].At}
}

func (r *stackReader) top() *frame { return &r.stack[len(r.stack)-1] }

// is asks for a token's text, and passes it.
func (r *stackReader) is(text string) bool {
	if r.tokens[r.next].Text != text {
		r.fail(api.ErrSyntaxToken)
		return false
	}
	r.next++
	return true
}

func (r *stackReader) leaf(e api.Expr) { r.kid, r.row, r.have = e, 8, true }

// push begins a part at the token, if not too much is open.
func (r *stackReader) push(f frame) bool {
	open, quants := 0, 0
	for _, x := range append(slices.Clone(r.stack), f) {
		if x.opening {
			open++
		}
		if x.part.Kind == api.EQuant {
			quants++
		}
	}
	if f.opening && (open > r.nest || quants > r.maxQuant) {
		r.fail(api.ErrSyntaxDeep)
		return false
	}
	r.open, r.quants = max(r.open, open), max(r.quants, quants)
	r.stack = append(r.stack, f)
	r.next++
	return true
}

// begin is at a token where a part must begin.
func (r *stackReader) begin() {
	t := r.tokens[r.next]
	place := 0
	if len(r.stack) > 0 {
		place = r.top().asked
	}
	n := slices.Index(callWords, t.Text)
	q := slices.Index(quantWords, t.Text)
	switch {
	case t.Kind == api.TokenNumber:
		r.next++
		r.leaf(api.Expr{Kind: api.EInt, N: t.N, At: t.At})
	case t.Kind == api.TokenName:
		r.next++
		r.leaf(api.Expr{Kind: api.EName, Name: t.Text, At: t.At})
	case t.Text == "true":
		r.next++
		r.leaf(api.Expr{Kind: api.EBool, N: 1, At: t.At})
	case t.Text == "false":
		r.next++
		r.leaf(api.Expr{Kind: api.EBool, At: t.At})
	case t.Text == "@":
		r.next++
		if r.tokens[r.next].Kind != api.TokenNumber {
			r.fail(api.ErrSyntaxToken)
			return
		}
		r.leaf(api.Expr{Kind: api.EVertex, N: r.tokens[r.next].N, At: t.At})
		r.next++
	case t.Text == "(":
		r.push(frame{opening: true, bracket: true})
	case t.Text == "not" && place <= 3:
		r.push(frame{part: api.Expr{Kind: api.ENot, At: t.At}, asked: 3, opening: true})
	case t.Text == "-":
		r.push(frame{part: api.Expr{Kind: api.ENeg, At: t.At}, asked: 7, opening: true})
	case t.Text == "if":
		r.push(frame{part: api.Expr{Kind: api.EIf, At: t.At}, opening: true})
	case n > 0:
		r.parenthesis(api.Expr{Kind: api.ECall, N: n, At: t.At})
	case q > 0:
		if r.push(frame{part: api.Expr{Kind: api.EQuant, N: q, At: t.At}, opening: true}) {
			r.beginSet()
		}
	case t.Text == "}" && r.emptyList():
		r.closeList()
	default:
		r.fail(api.ErrSyntaxToken)
	}
}

// parenthesis passes a word, and begins its arguments.
func (r *stackReader) parenthesis(e api.Expr) {
	r.next++
	if r.tokens[r.next].Text != "(" {
		r.fail(api.ErrSyntaxToken)
		return
	}
	r.push(frame{part: e, opening: true, bracket: true})
}

func (r *stackReader) emptyList() bool {
	return len(r.stack) > 0 && r.top().part.Kind == api.ESetList && len(r.top().part.Kids) == 0
}

func (r *stackReader) beginSet() {
	if t := r.tokens[r.next]; t.Kind == api.TokenName {
		r.top().part.Name = t.Text
	} else {
		r.fail(api.ErrSyntaxToken)
		return
	}
	r.next++
	if !r.is("in") {
		return
	}
	t := r.tokens[r.next]
	switch {
	case t.Kind == api.TokenName:
		r.next++
		r.setDone(api.Expr{Kind: api.ESetName, Name: t.Text, At: t.At})
	case t.Text == "vertices":
		r.next++
		r.setDone(api.Expr{Kind: api.ESetAll, At: t.At})
	case t.Text == "around":
		r.parenthesis(api.Expr{Kind: api.ESetAround, At: t.At})
	case t.Text == "{":
		r.push(frame{part: api.Expr{Kind: api.ESetList, At: t.At}, opening: true, bracket: true})
	default:
		r.fail(api.ErrSyntaxToken)
	}
}

// setDone is behind a quantifier's set, and goes on to its body.
func (r *stackReader) setDone(set api.Expr) {
	if r.is(":") {
		r.top().part.Kids = append(r.top().part.Kids, set)
		r.top().stage = 1
		r.have = false
	}
}

func (r *stackReader) closeList() {
	set := r.top().part
	r.stack = r.stack[:len(r.stack)-1]
	r.next++
	r.setDone(set)
}

// waits asks whether the last frame can't be done, as something of it must come yet.
func (r *stackReader) waits() bool {
	f := r.top()
	return f.bracket || f.part.Kind == api.EIf && f.stage < 2
}

// done ends the last frame with what was read as its last kid.
func (r *stackReader) done() {
	f := r.top()
	f.part.Kids = append(f.part.Kids, r.kid)
	r.kid, r.row = f.part, plainRow(f.part.Kind)
	if f.part.Kind == api.EIf || f.part.Kind == api.EQuant {
		r.row = 8
	}
	r.stack = r.stack[:len(r.stack)-1]
}

// goOn is at a token behind a whole part.
func (r *stackReader) goOn() {
	t := r.tokens[r.next]
	for kind, sign := range signOf {
		if t.Text == sign {
			r.operator(kind, t.At)
			return
		}
	}
	for len(r.stack) > 0 && !r.waits() {
		r.done()
	}
	if len(r.stack) == 0 {
		if t.Kind != api.TokenEnd {
			r.fail(api.ErrSyntaxToken)
			return
		}
		r.tree = r.kid
		r.next++
		return
	}
	r.within(t)
}

// operator ends as many frames as it takes till it may go on with what was read; all of them may be done, or nobody takes it.
func (r *stackReader) operator(kind, at int) {
	row, left, right := plainRow(kind), asked[kind][0], asked[kind][1]
	for {
		place := 0
		if len(r.stack) > 0 {
			place = r.top().asked
		}
		if r.row >= left && row >= place {
			r.stack = append(r.stack, frame{part: api.Expr{Kind: kind, Kids: []api.Expr{r.kid}, At: at}, asked: right})
			r.have = false
			r.next++
			return
		}
		if len(r.stack) == 0 || r.waits() {
			r.fail(api.ErrSyntaxToken)
			return
		}
		r.done()
	}
}

// within is at a token that must be one for which the last frame waits.
func (r *stackReader) within(t api.Token) {
	f := r.top()
	many, most := len(f.part.Kids)+1, 1
	if f.part.Kind == api.ECall && f.part.N <= 3 {
		most = 2
	}
	switch {
	case f.part.Kind == api.EIf && t.Text == []string{"then", "else"}[f.stage]:
		f.stage++
	case f.part.Kind == api.ESetList && t.Text == "}":
		f.part.Kids = append(f.part.Kids, r.kid)
		r.closeList()
		return
	case t.Text == "," && (f.part.Kind == api.ESetList || f.part.Kind == api.ECall && many < most):
	case t.Text == ")" && f.bracket && f.part.Kind != api.ESetList && many == most:
		r.closeParenthesis()
		return
	default:
		r.fail(api.ErrSyntaxToken)
		return
	}
	f.part.Kids = append(f.part.Kids, r.kid)
	r.have = false
	r.next++
}

func (r *stackReader) closeParenthesis() {
	f := *r.top()
	r.stack = r.stack[:len(r.stack)-1]
	r.next++
	f.part.Kids = append(f.part.Kids, r.kid)
	switch f.part.Kind {
	case 0:
		r.row = 8
	case api.ESetAround:
		r.setDone(f.part)
	default:
		r.leaf(f.part)
	}
}
