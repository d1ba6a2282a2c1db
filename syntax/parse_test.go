package syntax_test

import (
	"strconv"
	"strings"
	"testing"

	"isthmus/api"
	"isthmus/lex"
	"isthmus/syntax"
)

// checkParse holds Parse of a text against the plain reader.
func checkParse(t *testing.T, s string) (api.Expr, api.Errno) {
	t.Helper()
	tree, e, place := syntax.Parse(s)
	want := plainRead(s, 64, 4)
	if !equal(tree, want.tree) || e != want.e || place != want.at {
		t.Fatalf("Parse(%q): %s, %d, %d; want %s, %d, %d", s, told(tree), e, place, told(want.tree), want.e, want.at)
	}
	return tree, e
}

func wantTree(t *testing.T, s string, want api.Expr) {
	t.Helper()
	checkParse(t, s)
	tree, e, place := syntax.Parse(s)
	if !equal(tree, want) || e != api.OK || place != 0 {
		t.Errorf("Parse(%q): %s, %d, %d; want %s", s, told(tree), e, place, told(want))
	}
}

// wantRefused asks for an error, and for nothing beside it but its place.
func wantRefused(t *testing.T, s string, wantE api.Errno, wantAt int) {
	t.Helper()
	checkParse(t, s)
	tree, e, place := syntax.Parse(s)
	if !isZero(tree) || e != wantE || place != wantAt {
		t.Errorf("Parse(%q): %s, %d, %d; want %d, %d", s, told(tree), e, place, wantE, wantAt)
	}
}

// wantLike asks that two texts are read as one tree.
func wantLike(t *testing.T, s, like string) {
	t.Helper()
	a, e := checkParse(t, s)
	b, f := checkParse(t, like)
	if e != api.OK || f != api.OK || !syntax.Same(a, b) {
		t.Errorf("%q: %s, %d; %q: %s, %d", s, told(a), e, like, told(b), f)
	}
}

func TestS1Examples(t *testing.T) {
	wantTree(t, "1+2*3", at(1, of(api.EAdd, at(0, integer(1)), at(3, of(api.EMul, at(2, integer(2)), at(4, integer(3)))))))
	wantTree(t, "not not a = b", of(api.ENot, at(4, of(api.ENot, at(10, of(api.EEq, at(8, name("a")), at(12, name("b"))))))))
	wantTree(t, "if a then 1 else 2 + 3", of(api.EIf, at(3, name("a")), at(10, integer(1)), at(19, of(api.EAdd, at(17, integer(2)), at(21, integer(3))))))
	wantRefused(t, "a = b = c", api.ErrSyntaxToken, 6)
	wantRefused(t, "(1", api.ErrSyntaxToken, 2)
	wantRefused(t, "", api.ErrSyntaxToken, 0)
	wantRefused(t, "all v in (x): true", api.ErrSyntaxToken, 9)
	wantRefused(t, "{1}", api.ErrSyntaxToken, 0)
	wantRefused(t, "sum a in x: sum b in x: sum c in x: sum d in x: sum e in x: 1", api.ErrSyntaxDeep, 48)
	wantRefused(t, strings.Repeat("(", 65)+"1"+strings.Repeat(")", 65), api.ErrSyntaxDeep, 64)
	wantTree(t, strings.Repeat("(", 64)+"1"+strings.Repeat(")", 64), at(64, integer(1)))
	wantRefused(t, "connected(@1 @2)", api.ErrSyntaxToken, 13)
}

// Each kind of part, with its place, and with blanks that move it.
func TestS1EachPart(t *testing.T) {
	wantTree(t, "9223372036854775807", integer(1<<63-1))
	wantTree(t, " true", at(1, boolean(1)))
	wantTree(t, "\tfalse ", at(1, boolean(0)))
	wantTree(t, " x_1", at(1, name("x_1")))
	wantTree(t, " @ 9223372036854775807", at(1, vertex(1<<63-1)))
	wantTree(t, "@1099511627777", vertex(1<<40+1))
	wantTree(t, "@0", vertex(0))
	wantTree(t, " -1", at(1, of(api.ENeg, at(2, integer(1)))))
	wantTree(t, " not v", at(1, of(api.ENot, at(5, name("v")))))
	wantTree(t, "((v))", at(2, name("v")))
	wantTree(t, "( (1 + 2) )", at(5, of(api.EAdd, at(3, integer(1)), at(7, integer(2)))))
	for kind, sign := range signOf {
		wantTree(t, "a "+sign+" 7", at(2, of(kind, name("a"), at(3+len(sign), integer(7)))))
	}
	for n, word := range callWords[1:] {
		if n < 3 {
			wantTree(t, word+" (a, b)", call(n+1, at(len(word)+2, name("a")), at(len(word)+5, name("b"))))
		} else {
			wantTree(t, word+"(a)", call(n+1, at(len(word)+1, name("a"))))
		}
	}
	wantTree(t, " if a then b else c", at(1, of(api.EIf, at(4, name("a")), at(11, name("b")), at(18, name("c")))))
	for n, word := range quantWords[1:] {
		long := len(word)
		wantTree(t, word+" v in vertices: 1", quant(n+1, "v", at(long+6, of(api.ESetAll)), at(long+16, integer(1))))
		wantTree(t, word+" v in few: 1", quant(n+1, "v", at(long+6, setName("few")), at(long+11, integer(1))))
		wantTree(t, word+" v in around(v): 1", quant(n+1, "v", at(long+6, of(api.ESetAround, at(long+13, name("v")))), at(long+17, integer(1))))
		wantTree(t, word+" v in {}: 1", quant(n+1, "v", at(long+6, of(api.ESetList)), at(long+10, integer(1))))
		wantTree(t, word+" v in {1}: 1", quant(n+1, "v", at(long+6, of(api.ESetList, at(long+7, integer(1)))), at(long+11, integer(1))))
		wantTree(t, word+" v in {1,a,@2}: 1", quant(n+1, "v", at(long+6, of(api.ESetList, at(long+7, integer(1)), at(long+9, name("a")), at(long+11, vertex(2)))), at(long+16, integer(1))))
	}
}

// Which of two signs binds more, and that chains lean to the left: each sign beside each other one.
func TestS1Rows(t *testing.T) {
	for first, x := range signOf {
		for second, y := range signOf {
			s := "a " + x + " b " + y + " c"
			switch a, b := plainRow(first), plainRow(second); {
			case a == 4 && b == 4:
				wantRefused(t, s, api.ErrSyntaxToken, 5+len(x))
			case a >= b:
				wantLike(t, s, "(a "+x+" b) "+y+" c")
			default:
				wantLike(t, s, "a "+x+" (b "+y+" c)")
			}
		}
		if plainRow(first) < 3 {
			wantLike(t, "not a "+x+" not b", "(not a) "+x+" (not b)")
		} else {
			wantLike(t, "not a "+x+" b", "not (a "+x+" b)")
			wantRefused(t, "a "+x+" not b", api.ErrSyntaxToken, 3+len(x))
		}
		wantLike(t, "-a "+x+" -b", "(-a) "+x+" (-b)")
		wantLike(t, "--a "+x+" b", "(-(-a)) "+x+" b")
	}
	wantRefused(t, "-not a", api.ErrSyntaxToken, 1)
	wantLike(t, "not -a", "not (-a)")
	wantTree(t, "1-2-3", at(3, of(api.ESub, at(1, of(api.ESub, integer(1), at(2, integer(2)))), at(4, integer(3)))))
	wantTree(t, "a or b or c", at(7, of(api.EOr, at(2, of(api.EOr, name("a"), at(5, name("b")))), at(10, name("c")))))
}

// What stands behind `else`, and behind a quantifier's `:`, goes on as far as it can; what it can't take may be another one's.
func TestS1AsFarAsItCan(t *testing.T) {
	for _, x := range []string{"if a then b else ", "all v in x: "} {
		for _, sign := range signOf {
			wantLike(t, x+"c "+sign+" d", x+"(c "+sign+" d)")
			wantLike(t, x+"c "+sign+" d or e and f", x+"((c "+sign+" d) or e and f)")
			wantLike(t, "g "+sign+" "+x+"c "+sign+" d", "g "+sign+" ("+x+"c "+sign+" d)")
			wantLike(t, "-"+x+"c "+sign+" d", "-("+x+"c "+sign+" d)")
		}
		wantLike(t, x+"c = d = e", "("+x+"c = d) = e")
		wantLike(t, x+"not c = d < e", "("+x+"not c = d) < e")
		wantLike(t, "-"+x+"c = d = e + 1", "(-("+x+"c = d)) = e + 1")
		wantLike(t, "not "+x+"c = d = e and f", "(not ("+x+"c = d) = e) and f")
		wantLike(t, "1 + "+x+"c = d = e", "(1 + ("+x+"c = d)) = e")
		wantLike(t, x+x+"c = d = e = f", "("+x+"(("+x+"c = d) = e)) = f")
		wantRefused(t, x+x+"c = d = e = f = g", api.ErrSyntaxToken, 2*len(x)+14)
		wantRefused(t, "1 = "+x+"c = d = e", api.ErrSyntaxToken, len(x)+10)
		wantLike(t, "size("+x+"a) + 1", "(size(("+x+"a))) + 1")
		wantLike(t, "if "+x+"a then "+x+"b else "+x+"c", "if ("+x+"a) then ("+x+"b) else ("+x+"c)")
		wantLike(t, "sum w in {"+x+"a, "+x+"b}: 1", "sum w in {("+x+"a), ("+x+"b)}: 1")
	}
}

// What lex refuses is told first, wherever it stands.
func TestS1LexFirst(t *testing.T) {
	wantRefused(t, "1 $", api.ErrLexByte, 2)
	wantRefused(t, ") ) 07", api.ErrLexNumber, 4)
	wantRefused(t, "a = b = c Abc", api.ErrLexName, 10)
	wantRefused(t, strings.Repeat("(", 1999)+"!", api.ErrLexByte, 1999)
	wantRefused(t, strings.Repeat("(", 2001), api.ErrLexLong, 0)
	wantRefused(t, strings.Repeat("(", 2000), api.ErrSyntaxDeep, 64)
	wantRefused(t, strings.Repeat(" ", 2000), api.ErrSyntaxToken, 2000)
	wantTree(t, strings.Repeat(" ", 1999)+"x", at(1999, name("x")))
}

func TestS1WrongTokens(t *testing.T) {
	for _, x := range []struct {
		s  string
		at int
	}{
		{"@x", 1}, {"@", 1}, {"@-1", 1}, {"@(1)", 1}, {"1 2", 2}, {"a b", 2}, {"true false", 5}, {"()", 1}, {"(1))", 3}, {"(1,2)", 2}, {"1 +", 3}, {"+ 1", 0}, {"1 + * 2", 4},
		{"size", 4}, {"size @1", 5}, {"size()", 5}, {"size(@1, @2)", 7}, {"size(@1", 7}, {"block(@1)", 8}, {"block(@1, @2, @3)", 12}, {"block(@1,)", 9}, {"block(,@1)", 6},
		{"if a", 4}, {"if a then b", 11}, {"if a else b", 5}, {"if then", 3}, {"if a then b else", 16}, {"if (a then b) else c", 6}, {"then", 0}, {"else", 0}, {"if a then b then c", 12},
		{"all", 3}, {"all 1", 4}, {"all @1", 4}, {"all in", 4}, {"all v", 5}, {"all v in", 8}, {"all v in x", 10}, {"all v in x true", 11}, {"all v in x:", 11}, {"all v in x: :", 12}, {"all v of x: 1", 6}, {"all v : 1", 6},
		{"all v in true: 1", 9}, {"all v in 1: 1", 9}, {"all v in @1: 1", 9}, {"all v in size(@1): 1", 9}, {"all v in all: 1", 9}, {"all v in vertices(1): 1", 17}, {"all v in x(1): 1", 10},
		{"all v in around: 1", 15}, {"all v in around(): 1", 16}, {"all v in around{1}: 1", 15}, {"all v in around(1, 2): 1", 17}, {"all v in around(x: 1", 17}, {"some v in {@1,}: true", 14}, {"some v in {,}: true", 11}, {"some v in {@1 @2}: true", 14}, {"some v in {{}}: 1", 11}, {"some v in {@1): 1", 13}, {"some v in {vertices}: 1", 11},
		{"vertices", 0}, {"around(@1)", 0}, {"1 + vertices", 4}, {"in", 0}, {":", 0}, {",", 0}, {"}", 0}, {")", 0}, {"= 1", 0}, {"and a", 0}, {"a and", 5}, {"a not b", 2}, {"not", 3}, {"-", 1}, {"- ", 2}, {"not and", 4}, {"a = not b", 4}, {"a < b < c", 6}, {"a != b <= c", 7}, {"a = (b = c) = d", 12}, {"a + b = c + d = e", 14},
	} {
		wantRefused(t, x.s, api.ErrSyntaxToken, x.at)
	}
}

// openings are ways to open one more around a text.
var openings = []struct{ ahead, behind string }{
	{"(", ")"}, {"-", ""}, {"size(", ")"}, {"block(1,", ")"}, {"block(", ",1)"}, {"if ", " then 1 else 1"}, {"if 1 then ", " else 1"}, {"if 1 then 1 else ", ""},
	{"1+(", ")"}, {"-1-size(", ")"}, {"(1)+(", ")"},
}

// 64 may be open, whatever they are, and the 65th is refused at its token.
func TestS1HowDeep(t *testing.T) {
	for _, x := range openings {
		ahead, behind := strings.Repeat(x.ahead, 64), strings.Repeat(x.behind, 64)
		if _, e := checkParse(t, ahead+"1 + 1 * @1"+behind); e != api.OK {
			t.Errorf("64 times %q: %d", x.ahead, e)
		}
		for _, y := range []string{"(", "-", "if", "all", "count"} {
			wantRefused(t, ahead+y+" 1"+behind, api.ErrSyntaxDeep, len(ahead))
		}
		wantRefused(t, ahead+"size(1)"+behind, api.ErrSyntaxDeep, len(ahead)+4)
		wantRefused(t, ahead+"size 1", api.ErrSyntaxToken, len(ahead)+5)
		for _, y := range []string{")", "{", "+", "then", "in", "vertices", ""} {
			wantRefused(t, ahead+y, api.ErrSyntaxToken, len(ahead))
		}
		for _, y := range []string{"(", "if", "all", "not", "{"} {
			wantRefused(t, ahead+"1 "+y, api.ErrSyntaxToken, len(ahead)+2)
		}
	}
	nots := strings.Repeat("not ", 64)
	wantTree(t, nots+"v", chainOfNots(64, at(256, name("v"))))
	wantRefused(t, nots+"not v", api.ErrSyntaxDeep, 256)
	wantRefused(t, nots+"v not", api.ErrSyntaxToken, 258)
}

// What is done is open no more: a not, a `-`, an if in parentheses beside many that are open.
func TestS1OpenNoMore(t *testing.T) {
	nots, signs, brackets := strings.Repeat("not ", 64), strings.Repeat("-", 64), strings.Repeat("(", 64)
	for _, s := range []string{
		nots + "v = w and " + nots + "v or " + nots + "v", signs + "1 - " + signs + "1 * " + signs + "1", "(if not a then -b else (c)) + " + signs + "1",
		brackets + "1" + strings.Repeat(")", 64) + " + " + brackets + "1" + strings.Repeat(")", 64), "not a and " + brackets + "1" + strings.Repeat(")", 64),
		"not -a = " + brackets[:63] + "1" + strings.Repeat(")", 63), "sum v in {-1, (2), size(3)}: " + brackets[:63] + "1" + strings.Repeat(")", 63), "block(-(1), " + signs[:63] + "1)",
	} {
		if _, e := checkParse(t, s); e != api.OK {
			t.Errorf("Parse(%q): %d", s, e)
		}
	}
	wantRefused(t, nots+"v and "+nots+"v or "+nots+"(v)", api.ErrSyntaxDeep, 256+6+256+5+256)
	wantRefused(t, signs+"1 - "+signs+"-1", api.ErrSyntaxDeep, 64+4+64)
	wantRefused(t, "not -a = "+brackets+"1", api.ErrSyntaxDeep, 9+63)
	wantRefused(t, "block(-(1), "+signs+"1)", api.ErrSyntaxDeep, 12+63)
	wantRefused(t, "if 1 then 1 else "+brackets+"1", api.ErrSyntaxDeep, 17+63)
	wantRefused(t, "-if 1 then 1 else "+brackets+"1", api.ErrSyntaxDeep, 18+62)
	wantRefused(t, "if 1 then 1 else not 1 = 1 = "+brackets[:60]+brackets[:60], api.ErrSyntaxDeep, 29+64)
	wantRefused(t, "sum v in x: 1 = 1 = "+brackets[:60]+brackets[:60], api.ErrSyntaxDeep, 20+64)
	wantRefused(t, "sum v in x: 1 = "+brackets[:60]+brackets[:60], api.ErrSyntaxDeep, 16+63)
}

// chainOfNots is as many as there are, with their places from the front on.
func chainOfNots(many int, e api.Expr) api.Expr {
	for i := range many {
		e = at(4*(many-1-i), of(api.ENot, e))
	}
	return e
}

// What was opened first, and what last: the set of a quantifier and its body are within it, and so on.
func TestS1HowDeepInParts(t *testing.T) {
	next := numbers()
	taken, deep := 0, 0
	for range 1500 {
		ahead, behind := "", ""
		for many := 54 + next(12); many > 0; many-- {
			x := openings[next(4)]
			switch next(120) {
			case 0:
				x.ahead, x.behind = "sum v in {", "}:1"
			case 1:
				x.ahead, x.behind = "sum v in {1,", ",1}:1"
			case 2:
				x.ahead, x.behind = "sum v in around(", "):1"
			case 3:
				x.ahead, x.behind = "sum v in x:", ""
			case 4, 5, 6:
				x.ahead, x.behind = "(1 or not ", ")"
			case 7, 8, 9, 10, 11, 12:
				x = openings[next(len(openings))]
			}
			ahead, behind = ahead+x.ahead, x.behind+behind
		}
		switch _, e := checkParse(t, ahead+"1"+behind); e {
		case api.OK:
			taken++
		case api.ErrSyntaxDeep:
			deep++
		}
	}
	if taken < 200 || deep < 200 {
		t.Errorf("%d were taken, %d too deep", taken, deep)
	}
}

func TestS1Quantifiers(t *testing.T) {
	const q = "all v in x: "
	four := strings.Repeat(q, 4)
	checkParse(t, four+"1")
	wantRefused(t, four+q+"1", api.ErrSyntaxDeep, len(four))
	for _, word := range quantWords[1:] {
		wantRefused(t, four+word+" v in x: 1", api.ErrSyntaxDeep, len(four))
		wantRefused(t, four+word, api.ErrSyntaxDeep, len(four))
		wantRefused(t, four+"1 "+word, api.ErrSyntaxToken, len(four)+2)
		wantRefused(t, four+"(if 1 then 1 else -"+word+" v in x: 1)", api.ErrSyntaxDeep, len(four)+19)
	}
	wantRefused(t, "all v in around("+four+"1): 1", api.ErrSyntaxDeep, 16+3*len(q))
	wantRefused(t, "all v in {1, "+four+"1}: 1", api.ErrSyntaxDeep, 13+3*len(q))
	three := strings.Repeat(q, 3)
	for _, s := range []string{
		"(" + four + "1) and (" + four + "1)", "all v in around(" + three + "1): " + three + "1", "all v in {" + three + "1, " + three + "1}: " + three + "1",
		"if " + four + "1 then " + four + "1 else " + four + "1", "block(" + four + "1, " + four + "1)", q + "(" + three + "1) = (" + three + "1)", four + "1 = 1 = 1 = 1 = 1 = 1",
	} {
		if _, e := checkParse(t, s); e != api.OK {
			t.Errorf("Parse(%q): %d", s, e)
		}
	}
	wantRefused(t, strings.Repeat("(", 63)+"all v in {", api.ErrSyntaxDeep, 72)
	wantRefused(t, strings.Repeat("(", 63)+"all v in around(", api.ErrSyntaxDeep, 78)
	wantRefused(t, strings.Repeat("(", 64)+"all", api.ErrSyntaxDeep, 64)
	checkParse(t, strings.Repeat("(", 63)+"all v in x: 1"+strings.Repeat(")", 63))
}

// Texts of tokens drawn, most of which are refused somewhere.
func TestS1DrawnTexts(t *testing.T) {
	next := numbers()
	tokens := allTokens(readGrammar())
	for range 60000 {
		var text strings.Builder
		for range next(14) {
			text.WriteString(textOfToken(tokens[next(len(tokens))]) + " ")
		}
		checkParse(t, text.String())
	}
}

// Texts that the grammar is walked for: all of them are read, or too deep.
func TestS1DrawnQueries(t *testing.T) {
	next := numbers()
	taken := 0
	for range 4000 {
		s := drawnQuery(next, 12)
		if len(s) > api.MaxSource {
			continue
		}
		if _, e := checkParse(t, s); e == api.OK {
			taken++
		} else if e != api.ErrSyntaxDeep {
			t.Fatalf("Parse(%q): %d", s, e)
		}
		cut := next(len(s))
		checkParse(t, s[:cut])
		checkParse(t, s[cut:])
		checkParse(t, s[:cut]+" "+textOfDrawn(next)+" "+s[cut:])
	}
	if taken < 2000 {
		t.Errorf("only %d were taken", taken)
	}
}

func textOfDrawn(next func(int) int) string {
	some := strings.Fields("( ) { } , : @ + - * = < or and not if then else all in 1 v vertices around size block")
	return some[next(len(some))]
}

// drawnQuery is a text of the grammar's symbol `or`, with blanks here and there.
func drawnQuery(next func(int) int, size int) string {
	inner := func() string { return drawnQuery(next, size-1-next(4)) }
	if size <= 0 {
		return []string{"1", "true", "v", "@3", "false", "w"}[next(6)]
	}
	gap := strings.Repeat(" ", next(2))
	switch next(11) {
	case 0:
		return "(" + gap + inner() + gap + ")"
	case 1:
		return "(not " + inner() + ")"
	case 2:
		return "-(" + inner() + ")"
	case 3:
		return "if " + inner() + " then " + inner() + " else " + inner()
	case 4:
		return callWords[4+next(7)] + gap + "(" + inner() + ")"
	case 5:
		return callWords[1+next(3)] + "(" + inner() + "," + gap + inner() + ")"
	case 6:
		set := []string{"vertices", "few", "around" + gap + "(" + inner() + ")", "{" + gap + "}", "{" + inner() + "," + inner() + "}", "{" + inner() + "}"}[next(6)]
		return quantWords[1+next(6)] + " w in " + set + gap + ":" + inner()
	}
	signs := strings.Fields("or and + - * / %")
	x := signs[next(len(signs))]
	return inner() + " " + x + " " + inner()
}

// Texts of whatever bytes and of tokens without blanks: they end, and nothing panics.
func TestS1WhateverTexts(t *testing.T) {
	next := numbers()
	const some = "((((1v@-+=<{},: \n"
	for range 30000 {
		var text []byte
		for range next(80) {
			text = append(text, some[next(len(some))])
		}
		if next(3) == 0 && len(text) > 0 {
			text[next(len(text))] = byte(next(256))
		}
		checkParse(t, string(text))
	}
}

// Long chains lean to the left however long they are.
func TestS1LongChains(t *testing.T) {
	for _, sign := range []string{"+", "*", "-", "%", " or ", " and "} {
		s := "1" + strings.Repeat(sign+"1", 1999/(len(sign)+1))
		tree, e := checkParse(t, s)
		deep := 0
		for x := tree; len(x.Kids) == 2; x = x.Kids[0] {
			deep++
			if x.Kids[1].Kind != api.EInt {
				t.Fatalf("%q leans to the right", sign)
			}
		}
		if e != api.OK || deep != 1999/(len(sign)+1) {
			t.Errorf("%q: %d deep, %d", sign, deep, e)
		}
	}
	s := "sum v in {" + strings.Repeat("v,", 990) + "v}:1"
	if tree, e := checkParse(t, s); e != api.OK || len(tree.Kids[0].Kids) != 991 {
		t.Errorf("of a long list: %d", e)
	}
}

// Blanks move places alone, each to where its token is.
func TestS1PlacesAreTokens(t *testing.T) {
	next := numbers()
	for range 3000 {
		s := drawnQuery(next, 6)
		tokens, _, _ := lex.Scan(s)
		var wide strings.Builder
		moved := map[int]int{}
		for _, x := range tokens {
			wide.WriteString(strings.Repeat("\n", 1+next(3)))
			moved[x.At] = wide.Len()
			if x.Kind == api.TokenNumber {
				wide.WriteString(strconv.Itoa(x.N))
			}
			wide.WriteString(x.Text)
		}
		if wide.Len() > api.MaxSource {
			continue
		}
		want, e := checkParse(t, s)
		if e != api.OK {
			continue
		}
		each(&want, func(x *api.Expr) { x.At = moved[x.At] })
		if got, e := checkParse(t, wide.String()); e != api.OK || !equal(got, want) {
			t.Fatalf("Parse(%q): %s; want %s", wide.String(), told(got), told(want))
		}
	}
}

// What came out is its owner's, and no two lists of it share memory.
func TestTreesAreNewMemory(t *testing.T) {
	const s = "sum v in {@1, v, @2}: (1 + 2 + 3) * block(-v, if not a then b else c) + (all w in around(v): w = v)"
	first, _, _ := syntax.Parse(s)
	second, _, _ := syntax.Parse(s)
	want := copied(first)
	each(&first, func(x *api.Expr) { _ = append(x.Kids, name("x"), name("y"), name("z"), name("u")) })
	if !equal(first, want) {
		t.Errorf("two lists share memory: %s", told(first))
	}
	each(&first, func(x *api.Expr) { x.Kind, x.N, x.Name, x.At = 99, 99, "x", 99 })
	if third, _, _ := syntax.Parse(s); !equal(second, want) || !equal(third, want) {
		t.Errorf("an answer was changed by another one's owner: %s, %s", told(second), told(third))
	}
}
