package engine_test

import (
	"fmt"
	"strings"
)

// theQueries are DOC.md's examples of the whole, and some that passes change.
var theQueries = []string{
	"connected(@1, @4)", "connected(@1, @5)", "connected(@1, @9)", "block(@1, @3)", "block(@3, @4)", "bottleneck(@1, @3)", "bottleneck(@1, @5)", "bottleneck(@1, @1)", "size(@2)", "total(@2)", "least(@5)", "rep(@4)",
	"all v in few: connected(v, @1)", "count v in few: connected(v, @1)", "max v in vertices: degree(v)", "min v in {}: value(v)", "sum v in nobody: 1", "9223372036854775807 + 1", "1 / 0", "true or 1 / 0 = 1",
	"some v in around(@1): all w in around(v): v = w or bottleneck(v, w) < 8", "some v in around(@1): all w in around(v): bottleneck(v, w) < 8 or v = w", "size(@1) + size(@2) + size(@3)", "sum v in vertices: size(@1)",
	"sum v in vertices: (if connected(v, @1) then size(@1) * size(@1) else 0)", "all v in vertices: some w in vertices: connected(v, @1) and value(w) = value(v)", "sum v in few: count w in around(@1): 1 + 1 < 2 or connected(w, v)", "not not (all v in vertices: true) or size(@9) = size(@9)",
	"max few in few: value(few) - value(if degree(few) < 2 then few else rep(few))", "min v in few: sum v in around(v): value(v) + size(v) * size(v)", "sum a in few: sum b in few: sum c in few: sum d in few: if connected(a, b) and connected(c, d) then value(a) * value(d) else size(rep(@1))",
	"rep(if some v in few: connected(v, @9) then @1 else @5)", "if (some v in vertices: value(v) = total(v)) then rep(@4) else @9", "sum v in few: bottleneck(v, rep(@3)) + bottleneck(v, rep(@3))", "0 + size(@1) * 1 - (-3 + 3)", "count a in {@5, @1, @5}: connected(a, @4) = (all b in {}: connected(a, b))",
}

// filled is as many pieces, numbered, as a text has room for, with a sign between, ahead and behind of which something stands.
func filled(ahead, piece, sign, behind string) string {
	text := ""
	for i := 0; ; i++ {
		next := piece
		if strings.Contains(piece, "%d") {
			next = fmt.Sprintf(piece, 1+i%5)
		}
		if i > 0 {
			next = sign + next
		}
		if len(ahead)+len(text)+len(next)+len(behind) > 2000 {
			return ahead + text + behind
		}
		text += next
	}
}

// greatQueries have hardly room for more, each of something else.
func greatQueries() []string {
	negs := strings.Repeat("-", 60)
	rounds := "sum a in vertices: sum b in few: sum c in few: "
	return []string{
		filled("", "1", " + ", ""), filled("", negs+"1", " - ", ""), filled("", "size(@%d)", " * ", ""), filled("", "true", " and ", ""), filled("", "connected(@%d, @1)", " or ", ""), filled("count a in vertices: ", "connected(a, @%d)", " or ", ""),
		filled("sum a in vertices: count b in {", "rep(a)", ", ", "}: connected(a, b)"), filled("sum a in vertices: count b in {", "a", ", ", "}: connected(a, b)"), filled("count b in {", "@%d", ", ", "}: connected(@1, b)"),
		filled(rounds, "size(a)", " + ", ""), filled(rounds, "size(@%d)", " - ", ""), filled(rounds, "(count d in few: connected(a, d))", " + ", ""), filled(rounds, "(sum d in {a, b, c}: size(a))", " + ", ""), filled(rounds, "value(b) * size(a)", " + ", ""),
		filled("sum a in few: count b in few: ", "rep(a) = rep(b)", " and ", ""), filled("", "(sum a in few: 1)", " + ", ""), filled("", "(sum a in few: size(a))", " + ", ""), filled("sum x in few: ", "(sum a in few: size(x))", " + ", ""),
		filled("value(", strings.Repeat("rep(", 21)+"@1"+strings.Repeat(")", 21), ") + value(", ")"), filled("", "(if connected(@%d, @1) then 1 else 2)", " + ", ""), filled("sum a in vertices: ", "(if connected(a, @%d) then 1 else bottleneck(a, a))", " + ", ""),
	}
}
