package syntax_test

import (
	"maps"
	"slices"
	"strings"
	"testing"

	"isthmus/api"
	"isthmus/lex"
	"isthmus/syntax"
)

// theGrammar is the chapter's.
const theGrammar = `
query   = or
or      = and { "or" and }
and     = not { "and" not }
not     = "not" not | cmp
cmp     = sum [ ( "=" | "!=" | "<" | "<=" ) sum ]
sum     = prod { ( "+" | "-" ) prod }
prod    = unary { ( "*" | "/" | "%" ) unary }
unary   = "-" unary | atom
atom    = NUMBER | "true" | "false" | NAME | "@" NUMBER | "(" or ")"
        | call1 "(" or ")" | call2 "(" or "," or ")"
        | "if" or "then" or "else" or
        | quant NAME "in" set ":" or
call1   = "size" | "total" | "least" | "most" | "value" | "degree" | "rep"
call2   = "connected" | "block" | "bottleneck"
quant   = "all" | "some" | "count" | "sum" | "min" | "max"
set     = "vertices" | NAME | "around" "(" or ")" | "{" [ or { "," or } ] "}"
`

// grammar has the rules of each symbol; a symbol without rules is a token.
type grammar struct {
	rules map[string][][]string
	fresh int
	words []string
}

func readGrammar() *grammar {
	g := &grammar{rules: map[string][][]string{}}
	g.words = strings.Fields(theGrammar)
	for len(g.words) > 0 {
		symbol := g.words[0]
		g.words = g.words[2:]
		g.rules[symbol] = g.choices()
	}
	return g
}

// choices reads up to the end of a rule or of a bracket.
func (g *grammar) choices() [][]string {
	all := [][]string{nil}
	for len(g.words) > 0 {
		x := g.words[0]
		if slices.Contains([]string{")", "]", "}"}, x) || len(g.words) > 1 && g.words[1] == "=" {
			return all
		}
		g.words = g.words[1:]
		last := len(all) - 1
		switch x {
		case "|":
			all = append(all, nil)
		case "(", "[", "{":
			all[last] = append(all[last], g.bracket(x))
		default:
			all[last] = append(all[last], x)
		}
	}
	return all
}

// bracket reads what is bracketed as a new symbol.
func (g *grammar) bracket(opening string) string {
	g.fresh++
	symbol := "new" + strings.Repeat("'", g.fresh)
	inner := g.choices()
	g.words = g.words[1:]
	if opening == "{" {
		for i := range inner {
			inner[i] = append(inner[i], symbol)
		}
	}
	if opening != "(" {
		inner = append(inner, nil)
	}
	g.rules[symbol] = inner
	return symbol
}

// item is a rule of which so many symbols were met, since so many tokens.
type item struct {
	symbol             string
	rule, dot, started int
}

// chart is what may have been met behind each token: all that the grammar allows, by Earley's way.
type chart struct {
	g    *grammar
	sets [][]item
}

func newChart(g *grammar) chart {
	return chart{g, [][]item{closed(g, nil, []item{{symbol: "query"}})}}
}

// closed is a set with all that follows of it; ahead are the sets in front.
func closed(g *grammar, ahead [][]item, set []item) []item {
	seen := map[item]bool{}
	var all []item
	add := func(x item) {
		if !seen[x] {
			seen[x] = true
			all = append(all, x)
		}
	}
	for _, x := range set {
		add(x)
	}
	for more := true; more; { // till nothing comes: a symbol may be done without a token
		before := len(all)
		for i := 0; i < len(all); i++ {
			x := all[i]
			symbols := g.rules[x.symbol][x.rule]
			if x.dot == len(symbols) {
				from := all
				if x.started < len(ahead) {
					from = ahead[x.started]
				}
				for _, y := range from {
					if waiting := g.rules[y.symbol][y.rule]; y.dot < len(waiting) && waiting[y.dot] == x.symbol {
						y.dot++
						add(y)
					}
				}
				continue
			}
			for rule := range g.rules[symbols[x.dot]] {
				add(item{symbols[x.dot], rule, 0, len(ahead)})
			}
		}
		more = len(all) > before
	}
	return all
}

// goes are the tokens with which it may go on, and whether it may end.
func (c chart) goes() ([]string, bool) {
	found := map[string]bool{}
	end := false
	for _, x := range c.sets[len(c.sets)-1] {
		symbols := c.g.rules[x.symbol][x.rule]
		if x.dot == len(symbols) {
			end = end || x.symbol == "query"
		} else if c.g.rules[symbols[x.dot]] == nil {
			found[symbols[x.dot]] = true
		}
	}
	return slices.Sorted(maps.Keys(found)), end
}

// on is the chart with a token more.
func (c chart) on(token string) chart {
	var set []item
	for _, x := range c.sets[len(c.sets)-1] {
		if symbols := c.g.rules[x.symbol][x.rule]; x.dot < len(symbols) && symbols[x.dot] == token {
			x.dot++
			set = append(set, x)
		}
	}
	sets := slices.Clone(c.sets)
	return chart{c.g, append(sets, closed(c.g, c.sets, set))}
}

// textOfToken is how a symbol of the grammar is written.
func textOfToken(symbol string) string {
	switch symbol {
	case "NAME":
		return "v"
	case "NUMBER":
		return "7"
	}
	return strings.Trim(symbol, `"`)
}

// allTokens are all symbols of the grammar that are tokens.
func allTokens(g *grammar) []string {
	found := map[string]bool{}
	for _, rules := range g.rules {
		for _, symbols := range rules {
			for _, x := range symbols {
				found[x] = found[x] || g.rules[x] == nil
			}
		}
	}
	maps.DeleteFunc(found, func(_ string, is bool) bool { return !is })
	return slices.Sorted(maps.Keys(found))
}

// wantGoing asks for ErrSyntaxToken just where no query goes on: behind a text at each token that the grammar does not allow, and at the end, if it may not be there.
func wantGoing(t *testing.T, c chart, text string, tokens []string) {
	t.Helper()
	goes, end := c.goes()
	tree, e, at := syntax.Parse(text)
	if end && (e != api.OK || at != 0) || !end && (e != api.ErrSyntaxToken || at != len(text) || !isZero(tree)) {
		t.Fatalf("Parse(%q): %d at %d; it may end: %t", text, e, at, end)
	}
	for _, x := range tokens {
		_, e, at = syntax.Parse(text + textOfToken(x) + " )")
		here := e == api.ErrSyntaxToken && at == len(text)
		if here == slices.Contains(goes, x) {
			t.Fatalf("Parse(%q): %d at %d; it goes on with %s: %t", text+textOfToken(x)+" )", e, at, x, !here)
		}
	}
}

func TestS1TheGrammarIsRead(t *testing.T) {
	tokens := allTokens(readGrammar())
	if len(tokens) != 27+16+2 { // all words, all signs, NAME and NUMBER
		t.Errorf("%d tokens: %v", len(tokens), tokens)
	}
	for _, x := range tokens {
		if list, e, _ := lex.Scan(textOfToken(x)); e != api.OK || len(list) != 2 {
			t.Errorf("%s is no token", x)
		}
	}
}

// All beginnings of up to three tokens, each with each token behind it.
func TestS1AllShortTexts(t *testing.T) {
	g := readGrammar()
	tokens := allTokens(g)
	var walk func(c chart, text string, many int)
	walk = func(c chart, text string, many int) {
		wantGoing(t, c, text, tokens)
		if many == 0 {
			return
		}
		goes, _ := c.goes()
		for _, x := range goes {
			walk(c.on(x), text+textOfToken(x)+" ", many-1)
		}
	}
	walk(newChart(g), "", 3)
}

// Long texts that go wherever the grammar does.
func TestS1LongWalksOverTheGrammar(t *testing.T) {
	g := readGrammar()
	tokens := allTokens(g)
	next := numbers()
	for range 150 {
		c, text, quants := newChart(g), "", 0
		for range 6 + next(50) {
			goes, _ := c.goes()
			x := goes[next(len(goes))]
			if slices.Contains(quantWords, textOfToken(x)) {
				quants++
			}
			if quants > 4 { // the limit is asked elsewhere
				break
			}
			c, text = c.on(x), text+textOfToken(x)+" "
			if next(4) == 0 {
				wantGoing(t, c, text, tokens)
			}
		}
		wantGoing(t, c, text, tokens)
	}
}
