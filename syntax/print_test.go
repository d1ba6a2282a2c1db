package syntax_test

import (
	"strings"
	"testing"

	"isthmus/api"
	"isthmus/lex"
	"isthmus/syntax"
)

// checkPrint holds Print and Right of a tree against the plain ones, and asks that the tree stays what it was.
func checkPrint(t *testing.T, e api.Expr) (string, api.Errno) {
	t.Helper()
	before := copied(e)
	text, errno := syntax.Print(e)
	right := syntax.Right(e)
	want, is := plainPrint(e)
	wantErrno := api.OK
	if !is {
		wantErrno = api.ErrSyntaxTree
	}
	if text != want || errno != wantErrno || right != is {
		t.Fatalf("%s: Print %q, %d, Right %t; want %q, %t", told(e), text, errno, right, want, is)
	}
	if !equal(before, e) {
		t.Fatalf("the tree was changed: %s, %s", told(before), told(e))
	}
	return text, errno
}

func wantPrint(t *testing.T, e api.Expr, want string) {
	t.Helper()
	checkPrint(t, e)
	if text, errno := syntax.Print(e); text != want || errno != api.OK {
		t.Errorf("Print(%s): %q, %d; want %q", told(e), text, errno, want)
	}
	if !syntax.Right(e) {
		t.Errorf("%q is not right", want)
	}
}

func wantWrong(t *testing.T, e api.Expr) {
	t.Helper()
	checkPrint(t, e)
	if text, errno := syntax.Print(e); text != "" || errno != api.ErrSyntaxTree || syntax.Right(e) {
		t.Errorf("%s: %q, %d, right: %t", told(e), text, errno, syntax.Right(e))
	}
}

// wantReprint asks how a text is printed that was read.
func wantReprint(t *testing.T, s, want string) {
	t.Helper()
	tree, e := checkParse(t, s)
	if e != api.OK {
		t.Errorf("Parse(%q): %d", s, e)
		return
	}
	wantPrint(t, tree, want)
}

func TestS3Examples(t *testing.T) {
	wantReprint(t, "1+2*3", "1 + 2 * 3")
	wantReprint(t, "(1+2)*3", "(1 + 2) * 3")
	wantReprint(t, "1-(2-3)", "1 - (2 - 3)")
	wantReprint(t, "(1-2)-3", "1 - 2 - 3")
	wantReprint(t, "not not a = b", "not not a = b")
	wantReprint(t, "not (a and b)", "not (a and b)")
	wantReprint(t, "(not a) and b", "not a and b")
	wantReprint(t, "- - 1", "--1")
	wantReprint(t, "1 + (if a then 1 else 2)", "1 + (if a then 1 else 2)")
	wantReprint(t, "if a then 1 else 2 + 3", "if a then 1 else 2 + 3")
	wantReprint(t, "(all v in vertices: true) and true", "(all v in vertices: true) and true")
	wantReprint(t, "1 + if a then 1 else 2", "1 + (if a then 1 else 2)")
	wantReprint(t, "if a then b else c = d = e", "(if a then b else c = d) = e")
}

// Each kind of part as it is written.
func TestS3EachPart(t *testing.T) {
	wantPrint(t, integer(0), "0")
	wantPrint(t, integer(1<<63-1), "9223372036854775807")
	wantPrint(t, boolean(0), "false")
	wantPrint(t, boolean(1), "true")
	wantPrint(t, vertex(0), "@0")
	wantPrint(t, vertex(1<<63-1), "@9223372036854775807")
	wantPrint(t, name("a_0123456789"), "a_0123456789")
	wantPrint(t, of(api.ENeg, integer(1)), "-1")
	wantPrint(t, of(api.ENot, name("v")), "not v")
	for kind, sign := range signOf {
		wantPrint(t, of(kind, name("a"), name("b")), "a "+sign+" b")
	}
	wantPrint(t, of(api.EIf, name("a"), name("b"), name("c")), "if a then b else c")
	for n, word := range callWords[1:] {
		if n < 3 {
			wantPrint(t, call(n+1, name("a"), vertex(2)), word+"(a, @2)")
		} else {
			wantPrint(t, call(n+1, vertex(2)), word+"(@2)")
		}
	}
	for n, word := range quantWords[1:] {
		wantPrint(t, quant(n+1, "v", of(api.ESetAll), integer(1)), word+" v in vertices: 1")
		wantPrint(t, quant(n+1, "v", setName("few"), integer(1)), word+" v in few: 1")
		wantPrint(t, quant(n+1, "v", of(api.ESetAround, name("v")), integer(1)), word+" v in around(v): 1")
		wantPrint(t, quant(n+1, "v", of(api.ESetList), integer(1)), word+" v in {}: 1")
		wantPrint(t, quant(n+1, "v", of(api.ESetList, vertex(1)), integer(1)), word+" v in {@1}: 1")
		wantPrint(t, quant(n+1, "v", of(api.ESetList, vertex(1), integer(2), name("c")), integer(1)), word+" v in {@1, 2, c}: 1")
	}
	wantPrint(t, of(api.ESub, of(api.ENeg, integer(1)), of(api.ENeg, of(api.ENeg, integer(2)))), "-1 - --2")
	wantPrint(t, of(api.ENot, of(api.ENeg, call(api.CallSize, of(api.ENot, name("a"))))), "not -size(not a)")
}

// samples are one part of each kind, with kids that need no parentheses.
func samples() []api.Expr {
	all := []api.Expr{
		integer(1), boolean(1), vertex(2), name("v"), of(api.ENeg, name("n")), of(api.ENot, name("n")), of(api.EIf, name("a"), name("b"), name("c")),
		call(api.CallSize, name("s")), call(api.CallBlock, name("s"), name("t")), quant(api.QuantSum, "q", setName("x"), name("y")),
	}
	for _, kind := range binaryKinds() {
		all = append(all, of(kind, name("l"), name("r")))
	}
	return all
}

// parenthesized asks whether a kid stands in parentheses in the print of what has it.
func parenthesized(t *testing.T, e, kid api.Expr) bool {
	t.Helper()
	whole, _ := checkPrint(t, e)
	alone, _ := checkPrint(t, kid)
	if !strings.Contains(whole, alone) {
		t.Fatalf("%q has no %q", whole, alone)
	}
	return strings.Contains(whole, "("+alone+")")
}

// Each kind as each kid of each kind: it stands in parentheses, just if its row is below what is asked for.
func TestS3Parentheses(t *testing.T) {
	other := name("o")
	for _, kid := range samples() {
		for _, kind := range binaryKinds() {
			for i, e := range []api.Expr{of(kind, kid, other), of(kind, other, kid)} {
				if want := plainRow(kid.Kind) < asked[kind][i]; parenthesized(t, e, kid) != want {
					t.Errorf("kind %d as kid %d of %d: parentheses: %t", kid.Kind, i, kind, !want)
				}
			}
		}
		for _, kind := range []int{api.ENeg, api.ENot} {
			if want := plainRow(kid.Kind) < asked[kind][0]; parenthesized(t, of(kind, kid), kid) != want {
				t.Errorf("kind %d as kid of %d: parentheses: %t", kid.Kind, kind, !want)
			}
		}
		for _, e := range []api.Expr{
			of(api.EIf, kid, other, other), of(api.EIf, other, kid, other), of(api.EIf, other, other, kid), call(api.CallBlock, kid, other), call(api.CallBlock, other, kid),
			quant(api.QuantAll, "v", of(api.ESetAll), kid), quant(api.QuantAll, "v", of(api.ESetList, other, kid), other), quant(api.QuantAll, "v", of(api.ESetList, kid, other), other),
		} {
			if parenthesized(t, e, kid) {
				t.Errorf("kind %d as a kid of %s: in parentheses", kid.Kind, told(e))
			}
		}
		for _, e := range []api.Expr{call(api.CallSize, kid), quant(api.QuantAll, "v", of(api.ESetAround, kid), other)} {
			whole, _ := checkPrint(t, e)
			if strings.Contains(whole, "((") {
				t.Errorf("%q: too many parentheses", whole)
			}
		}
	}
}

// Each kind within each within each.
func TestS3ThreeWithinOneAnother(t *testing.T) {
	within := func(e, kid api.Expr) []api.Expr {
		var all []api.Expr
		for i := range e.Kids {
			if e.Kind == api.EQuant && i == 0 {
				continue
			}
			x := copied(e)
			x.Kids[i] = kid
			all = append(all, x)
		}
		return all
	}
	for _, a := range samples() {
		for _, b := range samples() {
			for _, two := range within(b, a) {
				for _, c := range samples() {
					for _, three := range within(c, two) {
						checkPrint(t, three)
					}
				}
			}
		}
	}
}

// The print has no blanks but those that S3 names.
func TestS3Blanks(t *testing.T) {
	next := numbers()
	for range 3000 {
		e := drawnTree(next, 5, 4)
		text, errno := checkPrint(t, e)
		if errno != api.OK {
			continue
		}
		if strings.Contains(text, "  ") || strings.TrimSpace(text) != text || strings.ContainsAny(text, "\t\n\r") {
			t.Fatalf("%q", text)
		}
		tokens, lexed, _ := lex.Scan(text)
		if lexed != api.OK || len(tokens)-1 != len(plainTokens(e)) {
			t.Fatalf("%q: %d, %d tokens", text, lexed, len(tokens))
		}
	}
}

// wide is a tree whose print has as many bytes as are asked for: a name, and `+ 1` behind it again and again.
func wide(bytes int) api.Expr {
	long := (bytes-1)%4 + 1
	return chain((bytes-long)/4, name("abcd"[:long]), func(e api.Expr) api.Expr { return of(api.EAdd, e, integer(1)) })
}

func TestS2HowLong(t *testing.T) {
	for bytes := 1990; bytes <= 2012; bytes++ {
		e := wide(bytes)
		if text, _ := checkPrint(t, e); syntax.Right(e) != (bytes <= 2000) || bytes <= 2000 && len(text) != bytes {
			t.Errorf("of %d bytes: %t, %d", bytes, syntax.Right(e), len(text))
		}
	}
	// Parentheses and blanks count as well.
	list := of(api.ESetList)
	for range 660 {
		list.Kids = append(list.Kids, integer(1))
	}
	for range 20 {
		checkPrint(t, quant(api.QuantAll, "v", list, integer(1)))
		list.Kids = append(list.Kids, integer(1))
	}
	for many := 240; many < 260; many++ {
		checkPrint(t, chain(many, integer(1), func(e api.Expr) api.Expr { return of(api.EAdd, e, of(api.ESub, integer(1), integer(1))) }))
		checkPrint(t, chain(many, integer(1), func(e api.Expr) api.Expr { return of(api.EOr, e, boolean(0)) }))
	}
}

// A print may have nearly as many parts as bytes.
func TestS2ManyParts(t *testing.T) {
	signs := chain(64, integer(1), func(e api.Expr) api.Expr { return of(api.ENeg, e) })
	e := chain(28, signs, func(e api.Expr) api.Expr { return of(api.EAdd, e, signs) })
	parts := 0
	each(&e, func(*api.Expr) { parts++ })
	text, _ := checkPrint(t, e)
	if parts != 1913 || len(text) != 1969 {
		t.Errorf("%d parts, %d bytes", parts, len(text))
	}
	wantWrong(t, of(api.EAdd, e, signs))
}

// deepenings are ways to lay one more part around a tree; each opens one in the print, or two.
func deepenings() []func(api.Expr) api.Expr {
	one := integer(1)
	return []func(api.Expr) api.Expr{
		func(e api.Expr) api.Expr { return of(api.ENeg, e) },
		func(e api.Expr) api.Expr { return of(api.ENot, e) },
		func(e api.Expr) api.Expr { return call(api.CallRep, e) },
		func(e api.Expr) api.Expr { return call(api.CallBlock, e, one) },
		func(e api.Expr) api.Expr { return call(api.CallBlock, one, e) },
		func(e api.Expr) api.Expr { return of(api.EIf, e, one, one) },
		func(e api.Expr) api.Expr { return of(api.EIf, one, e, one) },
		func(e api.Expr) api.Expr { return of(api.EIf, one, one, e) },
		func(e api.Expr) api.Expr { return of(api.ESub, one, e) },
		func(e api.Expr) api.Expr { return of(api.EEq, e, one) },
		func(e api.Expr) api.Expr { return of(api.EMul, of(api.ENeg, call(api.CallRep, one)), e) },
	}
}

// All ways to open 64 and 65, alone and mixed; the parentheses of the print count.
func TestS2HowDeep(t *testing.T) {
	for i, around := range deepenings() {
		right := 0
		for many := range 68 {
			if _, errno := checkPrint(t, chain(many, of(api.EAdd, integer(1), integer(1)), around)); errno == api.OK {
				right++
			}
		}
		if right < 32 || right > 67 {
			t.Errorf("way %d: %d are right", i, right)
		}
	}
	for i, around := range deepenings()[:8] {
		if e := chain(64, name("v"), around); !syntax.Right(e) || syntax.Right(around(e)) {
			t.Errorf("way %d: 64 are right: %t, 65: %t", i, syntax.Right(e), syntax.Right(around(e)))
		}
	}
}

// Ways to open one or two, mixed.
func TestS2HowDeepMixed(t *testing.T) {
	next := numbers()
	right := 0
	for range 1000 {
		ways := deepenings()
		e := drawnLeaf(next)
		for range 25 + next(45) {
			e = ways[next(len(ways))](e)
			if next(3) > 0 {
				e = of(api.ENeg, e)
			}
		}
		if _, errno := checkPrint(t, e); errno == api.OK {
			right++
		}
	}
	if right < 100 || right > 900 {
		t.Errorf("%d are right", right)
	}
}

// A parenthesis that the text had may be gone in the print, and one that it had not may be there.
func TestS2OpeningsAreThePrints(t *testing.T) {
	tree, e := checkParse(t, strings.Repeat("(", 64)+"1"+strings.Repeat(")", 64))
	if e != api.OK {
		t.Fatalf("%d", e)
	}
	wantPrint(t, tree, "1")
	tails := strings.Repeat("1 + if a then b else ", 32)
	tree, e = checkParse(t, tails+"1")
	if e != api.OK || !syntax.Right(tree) {
		t.Errorf("32 ifs, each in parentheses: %d, %t", e, syntax.Right(tree))
	}
	tree, e = checkParse(t, tails+"-1")
	if e != api.OK {
		t.Errorf("%d", e)
	}
	wantWrong(t, tree)
}

func TestS2Quantifiers(t *testing.T) {
	body := func(e api.Expr) api.Expr { return quant(api.QuantAll, "v", of(api.ESetAll), e) }
	around := func(e api.Expr) api.Expr {
		return quant(api.QuantMax, "v", of(api.ESetAround, e), integer(1))
	}
	list := func(e api.Expr) api.Expr {
		return quant(api.QuantMin, "v", of(api.ESetList, integer(1), e, integer(1)), integer(1))
	}
	ways := []func(api.Expr) api.Expr{body, around, list}
	for _, first := range ways {
		for _, second := range ways {
			for many := range 5 {
				e := chain(many, chain(4-many, integer(1), second), first)
				if _, errno := checkPrint(t, e); errno != api.OK {
					t.Errorf("four are refused: %s", told(e))
				}
				wantWrong(t, first(e))
				wantWrong(t, second(e))
				wantWrong(t, of(api.ENot, of(api.EEq, body(e), integer(1))))
				if many < 4 {
					checkPrint(t, of(api.EAnd, e, of(api.EIf, e, e, call(api.CallBlock, e, e))))
				}
			}
		}
	}
	four := chain(4, integer(1), body)
	if !syntax.Right(of(api.EAnd, four, of(api.EOr, four, four))) {
		t.Error("four beside four are refused")
	}
}

// What is wrong with a part, at the top and within others.
func TestS2WrongParts(t *testing.T) {
	one := integer(1)
	set := of(api.ESetAll)
	wrong := []api.Expr{
		{}, integer(-1), integer(-1 << 63), boolean(-1), boolean(2), vertex(-1), name(""), name("in"), name("X"), name("1a"), name("a b"), name("abcdefghijklm"), name("é"),
		{Kind: api.EInt, Name: "x"}, {Kind: api.EInt, Kids: []api.Expr{one}}, {Kind: api.EBool, Name: "x"}, {Kind: api.EBool, Kids: []api.Expr{one}}, {Kind: api.EVertex, Name: "x"}, {Kind: api.EVertex, Kids: []api.Expr{one}},
		{Kind: api.EName, Name: "x", N: 1}, {Kind: api.EName, Name: "x", Kids: []api.Expr{one}}, {Kind: api.EVar}, {Kind: api.EVar, Name: "v"}, of(api.ECell, one), {Kind: -1}, {Kind: 27}, {Kind: 1 << 62}, {Kind: 1<<32 + api.EInt},
		of(api.ENeg), of(api.ENeg, one, one), of(api.ENot), of(api.ENot, one, one), {Kind: api.ENeg, N: 1, Kids: []api.Expr{one}}, {Kind: api.ENot, Name: "x", Kids: []api.Expr{one}},
		of(api.EIf), of(api.EIf, one, one), of(api.EIf, one, one, one, one), {Kind: api.EIf, N: 1, Kids: []api.Expr{one, one, one}}, {Kind: api.EIf, Name: "x", Kids: []api.Expr{one, one, one}},
		call(0, one), call(0), call(-1, one), call(11, one), call(4), call(4, one, one), call(1, one), call(3, one, one, one), call(1<<32+4, one), {Kind: api.ECall, N: 4, Name: "x", Kids: []api.Expr{one}},
		quant(0, "v", set, one), quant(7, "v", set, one), quant(-1, "v", set, one), quant(1, "", set, one), quant(1, "all", set, one), quant(1, "V", set, one), quant(1, "v", one, one), quant(1, "v", one, set), quant(1, "v", set, set), quant(1, "v", name("x"), one),
		{Kind: api.EQuant, N: 1, Name: "v"}, {Kind: api.EQuant, N: 1, Name: "v", Kids: []api.Expr{set}}, {Kind: api.EQuant, N: 1, Name: "v", Kids: []api.Expr{set, one, one}}, {Kind: api.EQuant, N: 1, Name: "v", Kids: []api.Expr{set, set, one}},
	}
	for _, kind := range binaryKinds() {
		wrong = append(wrong, of(kind), of(kind, one), of(kind, one, one, one), api.Expr{Kind: kind, N: 1, Kids: []api.Expr{one, one}}, api.Expr{Kind: kind, Name: "x", Kids: []api.Expr{one, one}}, of(kind, set, one), of(kind, one, set))
	}
	for _, x := range wrongSets() {
		wrong = append(wrong, x, quant(1, "v", x, one))
	}
	for _, x := range []api.Expr{set, setName("x"), of(api.ESetAround, one), of(api.ESetList), of(api.ESetList, one)} {
		wantPrint(t, quant(1, "v", x, one), "all v in "+plainText(plainTokens(x))+": 1")
		wrong = append(wrong, x, of(api.ENeg, x), of(api.EIf, one, one, x), call(4, x), quant(1, "v", of(api.ESetAround, x), one), quant(1, "v", of(api.ESetList, one, x), one), quant(1, "v", set, x))
	}
	for _, e := range wrong {
		wantWrong(t, e)
		for _, around := range deepenings() {
			wantWrong(t, around(e))
		}
		wantWrong(t, quant(1, "v", of(api.ESetAll), e))
		wantWrong(t, quant(1, "v", of(api.ESetList, one, e), one))
	}
}

func wrongSets() []api.Expr {
	one := integer(1)
	return []api.Expr{
		{Kind: api.ESetAll, N: 1}, {Kind: api.ESetAll, Name: "x"}, of(api.ESetAll, one), setName(""), setName("in"), setName("vertices"), setName("X"), {Kind: api.ESetName, Name: "x", N: 1}, {Kind: api.ESetName, Name: "x", Kids: []api.Expr{one}},
		of(api.ESetAround), of(api.ESetAround, one, one), {Kind: api.ESetAround, N: 1, Kids: []api.Expr{one}}, {Kind: api.ESetAround, Name: "x", Kids: []api.Expr{one}}, {Kind: api.ESetList, N: 1}, {Kind: api.ESetList, Name: "x"}, of(api.ESetList, one, integer(-1)),
	}
}

// Places may be any numbers, and change nothing.
func TestS2PlacesMayBeAny(t *testing.T) {
	next := numbers()
	for range 500 {
		e := drawnTree(next, 4, 4)
		want, errno := checkPrint(t, e)
		each(&e, func(x *api.Expr) { x.At = []int{-1 << 63, -1, 0, 1 << 40, 1<<63 - 1}[next(5)] })
		if text, f := checkPrint(t, e); text != want || f != errno {
			t.Fatalf("%q, %d; want %q, %d", text, f, want, errno)
		}
	}
}

// Right trees in which one thing was made wrong, or another one that may be.
func TestS2SpoiltTrees(t *testing.T) {
	next := numbers()
	right := 0
	for range 20000 {
		e := drawnTree(next, 4, 4)
		parts := 0
		each(&e, func(*api.Expr) { parts++ })
		which := next(parts)
		each(&e, func(x *api.Expr) {
			if which == 0 {
				spoil(next, x)
			}
			which--
		})
		if _, errno := checkPrint(t, e); errno == api.OK {
			right++
		}
	}
	if right < 500 || right > 15000 {
		t.Errorf("%d are right", right)
	}
}

func spoil(next func(int) int, x *api.Expr) {
	switch next(6) {
	case 0:
		x.Kind = next(29) - 1
	case 1:
		x.N = next(14) - 2
	case 2:
		x.Name = []string{"", "x", "in", "Z", "abcdefghijklm"}[next(5)]
	case 3:
		x.Kids = append(x.Kids, drawnLeaf(next))
	case 4:
		if len(x.Kids) > 0 {
			x.Kids = x.Kids[1:]
		}
	case 5:
		*x = drawnSet(next, 1, 1)
	}
}

// Trees that are far too great, or that go on for ever, are told not right, and soon.
func TestS2TreesWithoutEnd(t *testing.T) {
	one := integer(1)
	loop := make([]api.Expr, 3)
	for _, kind := range []int{api.ENeg, api.ENot, api.EAdd, api.EOr, api.EIf, api.ESetList} {
		many := map[int]int{api.ENeg: 1, api.ENot: 1, api.EIf: 3}[kind]
		if many == 0 {
			many = 2
		}
		for i := range loop {
			loop[i] = api.Expr{Kind: kind, Kids: loop[:many]}
		}
		wantUnprinted(t, loop[0])
		wantUnprinted(t, of(api.EAdd, one, loop[0]))
		wantUnprinted(t, quant(1, "v", loop[0], one))
	}
	twice := one
	for range 60 {
		twice = of(api.EAdd, twice, twice)
	}
	wantUnprinted(t, twice)
	for _, around := range deepenings() {
		wantUnprinted(t, chain(1<<16, one, around))
	}
	wantUnprinted(t, chain(1<<16, one, func(e api.Expr) api.Expr { return of(api.EAdd, e, one) }))
	wantUnprinted(t, quant(1, "v", api.Expr{Kind: api.ESetList, Kids: make([]api.Expr, 1<<20)}, one))
	long := of(api.ESetList)
	for range 1 << 16 {
		long.Kids = append(long.Kids, one)
	}
	wantUnprinted(t, quant(1, "v", long, one))
	wantUnprinted(t, name(strings.Repeat("a", 1<<20)))
}

func wantUnprinted(t *testing.T, e api.Expr) {
	t.Helper()
	if text, errno := syntax.Print(e); text != "" || errno != api.ErrSyntaxTree || syntax.Right(e) {
		t.Errorf("%q, %d", text[:min(len(text), 200)], errno)
	}
}

// What is handed in stays what it is, what stands behind the lengths of its lists too.
func TestTreesAreNotWrittenInto(t *testing.T) {
	next := numbers()
	for range 300 {
		e := drawnTree(next, 4, 4)
		each(&e, func(x *api.Expr) {
			kids := append(make([]api.Expr, 0, len(x.Kids)+3), x.Kids...)
			copy(kids[len(kids):cap(kids)], []api.Expr{name("behind"), integer(7)})
			x.Kids = kids
		})
		before := spread(e)
		syntax.Print(e)
		syntax.Right(e)
		syntax.Same(e, e)
		if !equal(before, spread(e)) {
			t.Fatalf("%s was %s", told(e), told(before))
		}
	}
}
