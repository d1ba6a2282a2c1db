package syntax

import "isthmus/api"

// The rows of parts, from those that bind least on.
const (
	rowTail = iota // what goes on as far as it can: if, quantifiers
	rowOr
	rowAnd
	rowNot
	rowCompare
	rowSum
	rowProduct
	rowNegative
	rowAtom
)

// operator stands between two parts: its own row, and what it asks them for.
type operator struct {
	text             string
	kind             int
	row, left, right int
}

var operators = [...]operator{
	{"or", api.EOr, rowOr, rowOr, rowAnd},
	{"and", api.EAnd, rowAnd, rowAnd, rowNot},
	{"=", api.EEq, rowCompare, rowSum, rowSum},
	{"!=", api.ENe, rowCompare, rowSum, rowSum},
	{"<", api.ELess, rowCompare, rowSum, rowSum},
	{"<=", api.EAtMost, rowCompare, rowSum, rowSum},
	{"+", api.EAdd, rowSum, rowSum, rowProduct},
	{"-", api.ESub, rowSum, rowSum, rowProduct},
	{"*", api.EMul, rowProduct, rowProduct, rowNegative},
	{"/", api.EDiv, rowProduct, rowProduct, rowNegative},
	{"%", api.ERem, rowProduct, rowProduct, rowNegative},
}

// call is a word with so many arguments.
type call struct {
	word         string
	n, arguments int
}

var calls = [...]call{
	{"connected", api.CallConnected, 2},
	{"block", api.CallBlock, 2},
	{"bottleneck", api.CallBottleneck, 2},
	{"size", api.CallSize, 1},
	{"total", api.CallTotal, 1},
	{"least", api.CallLeast, 1},
	{"most", api.CallMost, 1},
	{"value", api.CallValue, 1},
	{"degree", api.CallDegree, 1},
	{"rep", api.CallRep, 1},
}

type quantifier struct {
	word string
	n    int
}

var quantifiers = [...]quantifier{
	{"all", api.QuantAll},
	{"some", api.QuantSome},
	{"count", api.QuantCount},
	{"sum", api.QuantSum},
	{"min", api.QuantMin},
	{"max", api.QuantMax},
}

// operatorAt is the operator of a text and a row: `-` is one of another row, too.
func operatorAt(text string, row int) (operator, bool) {
	for _, o := range operators {
		if o.text == text && o.row == row {
			return o, true
		}
	}
	return operator{}, false
}

func operatorOf(kind int) (operator, bool) {
	for _, o := range operators {
		if o.kind == kind {
			return o, true
		}
	}
	return operator{}, false
}

func callAt(word string) (call, bool) {
	for _, c := range calls {
		if c.word == word {
			return c, true
		}
	}
	return call{}, false
}

func callOf(n int) (call, bool) {
	for _, c := range calls {
		if c.n == n {
			return c, true
		}
	}
	return call{}, false
}

func quantifierAt(word string) (quantifier, bool) {
	for _, q := range quantifiers {
		if q.word == word {
			return q, true
		}
	}
	return quantifier{}, false
}

func quantifierOf(n int) (quantifier, bool) {
	for _, q := range quantifiers {
		if q.n == n {
			return q, true
		}
	}
	return quantifier{}, false
}

// rowOf is the row of the parts of a kind.
func rowOf(kind int) int {
	switch kind {
	case api.EIf, api.EQuant:
		return rowTail
	case api.ENot:
		return rowNot
	case api.ENeg:
		return rowNegative
	}
	if o, is := operatorOf(kind); is {
		return o.row
	}
	return rowAtom
}
