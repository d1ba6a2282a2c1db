package typing_test

import (
	"reflect"
	"slices"
	"strings"
	"testing"

	"isthmus/api"
	"isthmus/syntax"
	"isthmus/typing"
)

func TestT1Examples(t *testing.T) {
	wantKind(t, "1 + size(@1)", api.KindInt)
	wantKind(t, "@1 = rep(@2)", api.KindBool)
	wantKind(t, "if true then @1 else rep(@1)", api.KindVertex)
	wantFault(t, "all v in vertices: v = w", api.ErrTypeName, 23)
	wantFault(t, "1 + true", api.ErrTypeKind, 4)
	wantFault(t, "1 = true", api.ErrTypeKind, 4)
	wantFault(t, "if 1 then 2 else true", api.ErrTypeKind, 3)
	wantFault(t, "sum v in {v}: 1", api.ErrTypeName, 10)
	wantFault(t, "(true and 1) + 2", api.ErrTypeKind, 10)
	wantKind(t, "all v in vertices: some v in around(v): value(v) = 1", api.KindBool)
	wantFault(t, "connected(@1, 2)", api.ErrTypeKind, 14)
	wantFault(t, "v = @1", api.ErrTypeName, 0)
}

// The examples of the whole that are typed.
func TestT1Queries(t *testing.T) {
	for _, s := range []string{
		"connected(@1, @4)", "block(@1, @3)", "all v in few: connected(v, @1)", "true or 1 / 0 = 1",
		"some v in around(@1): all w in around(v): v = w or bottleneck(v, w) < 8", "some v in around(@1): all w in around(v): bottleneck(v, w) < 8 or v = w",
	} {
		wantKind(t, s, api.KindBool)
	}
	for _, s := range []string{
		"bottleneck(@1, @3)", "size(@2)", "total(@2)", "least(@5)", "count v in few: connected(v, @1)", "max v in vertices: degree(v)", "min v in {}: value(v)", "sum v in nobody: 1",
		"9223372036854775807 + 1", "1 / 0", "size(@1) + size(@2) + size(@3)",
	} {
		wantKind(t, s, api.KindInt)
	}
	wantKind(t, "rep(@4)", api.KindVertex)
	wantKind(t, "@9223372036854775807", api.KindVertex)
}

// Each part, with kids of all kinds: what it is, or the first kid that is of another kind.
func TestT1EachPart(t *testing.T) {
	kinds, typed := samples(), 0
	for a := api.KindInt; a <= api.KindVertex; a++ {
		want(t, at(7, kinds[a]), a, api.OK, 0)
		for _, e := range oneKid() {
			_, err, _ := checked(t, at(7, with(e, at(3, kinds[a]))))
			typed += isOK(err)
		}
		for b := api.KindInt; b <= api.KindVertex; b++ {
			for _, e := range twoKids() {
				_, err, _ := checked(t, at(7, with(e, at(3, kinds[a]), at(5, kinds[b]))))
				typed += isOK(err)
			}
			for c := api.KindInt; c <= api.KindVertex; c++ {
				_, err, _ := checked(t, at(7, of(api.EIf, at(3, kinds[a]), at(5, kinds[b]), at(9, kinds[c]))))
				typed += isOK(err)
			}
		}
	}
	// 9 of one kid; 9 of two with one choice, 2 with three, 3 calls; 3 of if.
	if typed != 9+9+6+3+3 {
		t.Errorf("%d are typed", typed)
	}
}

func isOK(err api.Errno) int {
	if err == api.OK {
		return 1
	}
	return 0
}

// What is told of a few parts, in the document's words.
func TestT1PartsInWords(t *testing.T) {
	for _, s := range []string{"-1", "1 + 1", "1 - 1", "1 * 1", "1 / 1", "1 % 1", "total(@1)", "least(@1)", "most(@1)", "value(@1)", "degree(@1)", "if true then 1 else 2"} {
		wantKind(t, s, api.KindInt)
	}
	for _, s := range []string{
		"not true", "true and false", "true or false", "1 < 1", "1 <= 1", "1 = 1", "1 != 1", "true = true", "true != true", "@1 = @1", "@1 != @1", "block(@1, @1)", "if true then true else false",
	} {
		wantKind(t, s, api.KindBool)
	}
	for _, sign := range []string{"+", "-", "*", "/", "%", "<", "<="} {
		wantFault(t, "true "+sign+" 1", api.ErrTypeKind, 0)
		wantFault(t, "@1 "+sign+" 1", api.ErrTypeKind, 0)
		wantFault(t, "1 "+sign+" true", api.ErrTypeKind, 3+len(sign))
		wantFault(t, "1 "+sign+" @1", api.ErrTypeKind, 3+len(sign))
	}
	for _, sign := range []string{"and", "or"} {
		wantFault(t, "1 "+sign+" true", api.ErrTypeKind, 0)
		wantFault(t, "true "+sign+" @1", api.ErrTypeKind, 6+len(sign))
	}
	for _, sign := range []string{"=", "!="} {
		wantFault(t, "@1 "+sign+" 1", api.ErrTypeKind, 4+len(sign))
		wantFault(t, "true "+sign+" @1", api.ErrTypeKind, 6+len(sign))
		wantFault(t, "1 "+sign+" true", api.ErrTypeKind, 3+len(sign))
	}
	wantFault(t, "-true", api.ErrTypeKind, 1)
	wantFault(t, "-@1", api.ErrTypeKind, 1)
	wantFault(t, "not 1", api.ErrTypeKind, 4)
	wantFault(t, "not @1", api.ErrTypeKind, 4)
	wantFault(t, "size(1)", api.ErrTypeKind, 5)
	wantFault(t, "rep(true)", api.ErrTypeKind, 4)
	wantFault(t, "bottleneck(1, 2)", api.ErrTypeKind, 11)
	wantFault(t, "bottleneck(@1, true)", api.ErrTypeKind, 15)
	wantFault(t, "if @1 then 1 else 2", api.ErrTypeKind, 3)
	wantFault(t, "if true then 1 else @2", api.ErrTypeKind, 20)
	wantFault(t, "if true then @1 else 2", api.ErrTypeKind, 21)
	wantFault(t, "if true then true else 2", api.ErrTypeKind, 23)
}

// Each quantifier over each set, with bodies of all kinds.
func TestT1Quantifiers(t *testing.T) {
	kinds := samples()
	bodies := []int{0, api.KindBool, api.KindBool, api.KindBool, api.KindInt, api.KindInt, api.KindInt}
	wholes := []int{0, api.KindBool, api.KindBool, api.KindInt, api.KindInt, api.KindInt, api.KindInt}
	sets := []api.Expr{of(api.ESetAll), setName("v"), of(api.ESetAround, vertex(1)), of(api.ESetList), of(api.ESetList, vertex(1), vertex(2))}
	for n := api.QuantAll; n <= api.QuantMax; n++ {
		for _, set := range sets {
			for body := api.KindInt; body <= api.KindVertex; body++ {
				e := placed(quant(n, "v", set, kinds[body]), 20)
				if body == bodies[n] {
					want(t, e, wholes[n], api.OK, 0)
				} else {
					want(t, e, 0, api.ErrTypeKind, e.Kids[1].At)
				}
			}
		}
	}
}

// A set's kids are vertices, each of them; the first one that isn't is told, ahead of the body.
func TestT1Sets(t *testing.T) {
	wantFault(t, "all v in around(1): 1", api.ErrTypeKind, 16)
	wantFault(t, "all v in around(true): 1", api.ErrTypeKind, 16)
	wantFault(t, "all v in {1}: 1", api.ErrTypeKind, 10)
	wantFault(t, "all v in {@1, true, 1}: 1", api.ErrTypeKind, 14)
	wantFault(t, "all v in {@1, @2, @3, 4 + 5, w}: 1", api.ErrTypeKind, 24)
	wantFault(t, "all v in {@1, @2, w, 1}: 1", api.ErrTypeName, 18)
	wantKind(t, "all v in {@1, rep(@2), if true then @3 else @4}: true", api.KindBool)
	wantKind(t, "sum v in {}: 1", api.KindInt)
	wantFault(t, "sum v in {}: @1", api.ErrTypeKind, 13)
	wantKind(t, "sum v in around(rep(@1)): 1", api.KindInt)
	kinds := samples()
	for which := range 5 {
		for kind := api.KindInt; kind <= api.KindVertex; kind++ {
			list := of(api.ESetList, vertex(1), vertex(2), vertex(3), vertex(4), vertex(5))
			list.Kids[which] = kinds[kind]
			checked(t, placed(quant(api.QuantAll, "v", list, boolean(0)), 1))
		}
	}
}

// A kid that is done is held to what it must be ahead of the next one; and all within a kid is ahead of the kid.
func TestT1Order(t *testing.T) {
	wantFault(t, "true + w", api.ErrTypeKind, 0)
	wantFault(t, "w + true", api.ErrTypeName, 0)
	wantFault(t, "1 + w", api.ErrTypeName, 4)
	wantFault(t, "true + true", api.ErrTypeKind, 0)
	wantFault(t, "(1 + true) + w", api.ErrTypeKind, 5)
	wantFault(t, "1 + (true + w)", api.ErrTypeKind, 5)
	wantFault(t, "(1 < 2) + w", api.ErrTypeKind, 3)
	wantFault(t, "(w < 2) + true", api.ErrTypeName, 1)
	wantFault(t, "1 = (true + 1)", api.ErrTypeKind, 5)
	wantFault(t, "1 = (true = w)", api.ErrTypeName, 12)
	wantFault(t, "if 1 then w else true", api.ErrTypeKind, 3)
	wantFault(t, "if w then 1 else true", api.ErrTypeName, 3)
	wantFault(t, "if true then w else 1", api.ErrTypeName, 13)
	wantFault(t, "if true then 1 else w", api.ErrTypeName, 20)
	wantFault(t, "if true then 1 else @1 + 1", api.ErrTypeKind, 20)
	wantFault(t, "if true then 1 else 1 < 1", api.ErrTypeKind, 22)
	wantFault(t, "connected(1, w)", api.ErrTypeKind, 10)
	wantFault(t, "connected(w, 1)", api.ErrTypeName, 10)
	wantFault(t, "connected(@1, w)", api.ErrTypeName, 14)
	wantFault(t, "all v in around(w): 1", api.ErrTypeName, 16)
	wantFault(t, "all v in around(1): w", api.ErrTypeKind, 16)
	wantFault(t, "all v in x: 1 + w", api.ErrTypeName, 16)
	wantFault(t, "1 + (all v in x: 1)", api.ErrTypeKind, 17)
	wantFault(t, "1 + (all v in x: true)", api.ErrTypeKind, 5)
	wantFault(t, "not (count v in x: true)", api.ErrTypeKind, 5)
	wantFault(t, "- - - true", api.ErrTypeKind, 6)
	wantFault(t, "not not (1 + 1)", api.ErrTypeKind, 11)
	wantFault(t, "size(size(@1))", api.ErrTypeKind, 5)
	wantFault(t, "1 + 2 + true + 4 + w", api.ErrTypeKind, 8)
	wantFault(t, "1 < 2 and 3 and w", api.ErrTypeKind, 10)
}

// The place is the kid's own: an operator's, a word's, that of `@`.
func TestT1Places(t *testing.T) {
	for _, x := range []struct {
		s  string
		at int
	}{
		{"1 + @1", 4}, {"1 + (2 = 3)", 7}, {"1 + (not true)", 5}, {"1 + rep(@1)", 4}, {"1 + (if true then true else true)", 5}, {"1 + (  all v in x: true)", 7},
		{"true and 1 + 2", 11}, {"true and -1", 9}, {"true and (((1)))", 12}, {"not 1 + 1", 6}, {"1 + true", 4}, {"  true + 1", 2}, {"sum v in x: v", 12},
	} {
		wantFault(t, x.s, api.ErrTypeKind, x.at)
	}
}

// A place may be any number, and tells nothing but itself.
func TestT1AnyPlace(t *testing.T) {
	for _, place := range []int{0, 1, -1, 2000, 2001, 1<<63 - 1, -1 << 63} {
		want(t, at(5, of(api.EAdd, at(6, integer(1)), at(place, boolean(1)))), 0, api.ErrTypeKind, place)
		want(t, at(place, name("v")), 0, api.ErrTypeName, place)
		want(t, at(place, integer(1)), api.KindInt, api.OK, 0)
		want(t, at(place, of(api.EAdd, at(place, integer(1)), at(place, integer(1)))), api.KindInt, api.OK, 0)
		want(t, at(place, of(api.ENeg)), 0, api.ErrSyntaxTree, 0)
	}
}

// A variable is bound in the body of its quantifier, and nowhere else.
func TestT1Variables(t *testing.T) {
	for _, s := range []string{
		"all v in x: v = v", "all v in x: all w in x: v = w", "all v in x: all v in x: v = v", "all v in v: v = v", "all v in x: some w in v: v = w", "all v in x: some w in {v, rep(v)}: w = v",
		"all v in x: some v in around(v): v = v", "all v in x: some v in {v, v}: true", "all v in x: not (some w in x: v = w) and v = v", "all v in x: all w in x: all y in x: all z in x: v = w or y = z",
		"(all v in x: v = @1) and (all v in x: v = @2)", "all v in x: (some v in x: v = v) and v = v", "all v in x: all w in {if all w in x: w = v then v else @1}: v = w",
		"all v in x: if v = v then connected(v, v) else block(v, rep(v))", "all a_0123456789 in x: a_0123456789 = a_0123456789", "all x in x: x = x",
	} {
		wantKind(t, s, api.KindBool)
	}
	for _, x := range []struct {
		s  string
		at int
	}{
		{"v", 0}, {"size(v)", 5}, {"all v in around(v): true", 16}, {"all v in {@1, v}: true", 14}, {"all v in {rep(v)}: true", 14}, {"all v in x: w = v", 12}, {"all v in w: w = v", 12}, {"all v in x: x = v", 12},
		{"(all v in x: true) and v = @1", 23}, {"v = @1 and (all v in x: true)", 0}, {"all v in x: (all w in x: true) and w = v", 35}, {"all v in x: all w in around(w): true", 28},
		{"all v in {if all w in x: true then w else @1}: true", 35}, {"all v in {if all w in x: v = w then @1 else @2}: true", 25}, {"all v in around(if all w in x: true then @1 else @2): w = v", 54},
		{"all v in x: all w in x: all y in x: all z in x: u = v", 48}, {"all vv in x: v = vv", 13}, {"all v in x: vv = v", 12}, {"all v in x: if true then v = v else w = v", 36},
		{"if all v in x: true then v else v", 25}, {"block(rep(@1), v)", 15}, {"all a in x: (all b in x: true) and (all c in {b}: true)", 46},
	} {
		wantFault(t, x.s, api.ErrTypeName, x.at)
	}
}

// All ways in which up to four quantifiers of two names may stand about a name: as bodies, or in sets.
func TestT1BoundOrNot(t *testing.T) {
	for ways := range 1 << 8 {
		for _, asked := range []string{"v", "w"} {
			bound := false
			e := of(api.EEq, name(asked), vertex(1))
			for i := range 4 {
				variable := "v"
				if ways>>(2*i)&1 == 1 {
					variable = "w"
				}
				if ways>>(2*i+1)&1 == 1 {
					e = quant(api.QuantAll, variable, of(api.ESetAll), e)
					bound = bound || variable == asked
				} else {
					e = quant(api.QuantAll, variable, of(api.ESetAround, of(api.EIf, e, vertex(2), vertex(3))), boolean(1))
				}
			}
			if _, err, _ := checked(t, placed(e, 1)); (err == api.OK) != bound {
				t.Errorf("%s: %d", told(e), err)
			}
		}
	}
}

// What is no right tree is refused first, whatever else is wrong with it, and without a place.
func TestT1WrongTrees(t *testing.T) {
	wrong := of(api.EAdd, boolean(1), name("nobody"))
	trees := []api.Expr{
		{}, of(api.ESetAll), setName("x"), of(api.ESetAround, vertex(1)), of(api.ESetList), of(-1), of(27), of(1 << 62), of(-1 << 63),
		{Kind: api.EVar}, {Kind: api.ECell, Kids: []api.Expr{integer(1)}}, {Kind: api.EInt, N: -1}, {Kind: api.EBool, N: 2}, {Kind: api.EVertex, N: -1 << 63}, {Kind: api.EInt, Name: "v"}, {Kind: api.EInt, Kids: []api.Expr{integer(1)}},
		name(""), name("all"), name("V"), name("abcdefghijklm"), {Kind: api.EName, Name: "v", N: 1}, of(api.ENeg), of(api.ENeg, integer(1), integer(1)), of(api.ENeg, of(api.ESetAll)), of(api.EAdd, integer(1)), of(api.EIf, boolean(1), integer(1)),
		call(0, vertex(1)), call(11, vertex(1)), call(-1, vertex(1)), call(api.CallRep), call(api.CallSize, vertex(1), vertex(1)), call(api.CallBlock, vertex(1)), call(api.CallRep, of(api.ESetAll)),
		quant(0, "v", of(api.ESetAll), boolean(1)), quant(7, "v", of(api.ESetAll), boolean(1)), quant(api.QuantAll, "", of(api.ESetAll), boolean(1)), quant(api.QuantAll, "in", of(api.ESetAll), boolean(1)),
		quant(api.QuantAll, "v", vertex(1), boolean(1)), quant(api.QuantAll, "v", of(api.ESetAll), of(api.ESetAll)), quant(api.QuantAll, "v", boolean(1), of(api.ESetAll)), quant(api.QuantAll, "v", setName("not"), boolean(1)),
		{Kind: api.EQuant, N: api.QuantAll, Name: "v", Kids: []api.Expr{of(api.ESetAll)}}, quant(api.QuantAll, "v", of(api.ESetAround), boolean(1)), quant(api.QuantAll, "v", of(api.ESetList, of(api.ESetAll)), boolean(1)),
	}
	for _, e := range trees {
		want(t, at(9, e), 0, api.ErrSyntaxTree, 0)
		want(t, placed(of(api.EAnd, wrong, e), 9), 0, api.ErrSyntaxTree, 0)
		want(t, placed(of(api.EAnd, e, wrong), 9), 0, api.ErrSyntaxTree, 0)
	}
}

// The greatest trees that are right, and those that are a little greater.
func TestT1Edges(t *testing.T) {
	add := func(e api.Expr) api.Expr { return of(api.EAdd, e, integer(1)) }
	not := func(e api.Expr) api.Expr { return of(api.ENot, e) }
	all := func(e api.Expr) api.Expr { return quant(api.QuantAll, "v", of(api.ESetAll), e) }
	sum := placed(chain(499, integer(100), add), 1)
	want(t, sum, api.KindInt, api.OK, 0)
	want(t, add(sum), 0, api.ErrSyntaxTree, 0)
	want(t, placed(chain(64, boolean(1), not), 1), api.KindBool, api.OK, 0)
	want(t, placed(chain(64, integer(1), not), 1), 0, api.ErrTypeKind, 65)
	want(t, placed(chain(65, integer(1), not), 1), 0, api.ErrSyntaxTree, 0)
	want(t, placed(chain(64, name("v"), not), 1), 0, api.ErrTypeName, 65)
	want(t, chain(4, of(api.EEq, name("v"), name("v")), all), api.KindBool, api.OK, 0)
	want(t, chain(5, of(api.EEq, name("v"), name("v")), all), 0, api.ErrSyntaxTree, 0)
	want(t, placed(chain(4, of(api.EEq, name("v"), name("w")), all), 1), 0, api.ErrTypeName, 11)
	want(t, placed(chain(4, name("v"), all), 1), 0, api.ErrTypeKind, 9)
	last := sum
	for last.Kind == api.EAdd {
		last = last.Kids[0]
	}
	wrong := placed(chain(499, name("vvv"), add), 1)
	want(t, wrong, 0, api.ErrTypeName, last.At)
	wrong = placed(of(api.EAnd, of(api.EEq, chain(400, integer(1), add), integer(1)), integer(2)), 1)
	want(t, wrong, 0, api.ErrTypeKind, 1+1+1+801+1)
}

// A list of as many kids as a text has room for; the last of them may be the wrong one.
func TestT1LongLists(t *testing.T) {
	list := of(api.ESetList)
	for range 490 {
		list.Kids = append(list.Kids, vertex(1))
	}
	e := placed(quant(api.QuantCount, "v", list, boolean(1)), 1)
	want(t, e, api.KindInt, api.OK, 0)
	e.Kids[0].Kids[489] = at(5000, integer(100))
	want(t, e, 0, api.ErrTypeKind, 5000)
	e.Kids[0].Kids[489] = at(5000, name("v"))
	want(t, e, 0, api.ErrTypeName, 5000)
	e.Kids[0].Kids[0] = at(6000, boolean(1))
	want(t, e, 0, api.ErrTypeKind, 6000)
	inner := quant(api.QuantCount, "w", copied(e.Kids[0]), boolean(1))
	for i := range inner.Kids[0].Kids {
		inner.Kids[0].Kids[i] = name("v")
	}
	want(t, quant(api.QuantSum, "v", of(api.ESetAll), inner), api.KindInt, api.OK, 0)
}

// Trees that are within themselves, and trees of more parts than could be gone through.
func TestT1TreesWithoutEnd(t *testing.T) {
	for _, kind := range []int{api.ENeg, api.ENot, api.EAdd, api.EAnd, api.EEq, api.EIf, api.ESetList, api.ESetAround} {
		kids := make([]api.Expr, 3)
		for i := range kids {
			kids[i] = api.Expr{Kind: kind, Kids: kids, At: 4}
		}
		many := map[int]int{api.ENeg: 1, api.ENot: 1, api.ESetAround: 1, api.EIf: 3}[kind]
		if many == 0 {
			many = 2
		}
		for i := range kids {
			kids[i].Kids = kids[:many]
		}
		wantWithout(t, kids[0])
		wantWithout(t, quant(api.QuantAll, "v", kids[0], boolean(1)))
		wantWithout(t, quant(api.QuantAll, "v", of(api.ESetAll), kids[0]))
	}
	wide := integer(1)
	for range 60 {
		wide = of(api.EAdd, wide, wide)
	}
	wantWithout(t, wide)
	wantWithout(t, of(api.ESetList, make([]api.Expr, 1<<20)...))
	wantWithout(t, quant(api.QuantAll, "v", of(api.ESetList, make([]api.Expr, 1<<20)...), integer(1)))
}

func wantWithout(t *testing.T, e api.Expr) {
	t.Helper()
	if kind, err, at := typing.Check(e); kind != 0 || err != api.ErrSyntaxTree || at != 0 {
		t.Errorf("a tree without an end: %d, %d at %d", kind, err, at)
	}
}

// All right trees of up to four parts, with two names, and greater ones of fewer kinds.
func TestT1AllSmallTrees(t *testing.T) {
	leaves := []api.Expr{integer(1), boolean(1), vertex(1), name("v"), name("w")}
	all := smallTrees(4, leaves, oneKid(), twoKids(), []int{1, 2, 3, 4, 5, 6}, []string{"v", "w"})
	few := smallTrees(7, []api.Expr{boolean(0), name("v")}, []api.Expr{call(api.CallSize)}, []api.Expr{of(api.EEq), call(api.CallBlock)}, []int{api.QuantSome, api.QuantCount}, []string{"v"})
	typed := 0
	for _, e := range slices.Concat(all, few) {
		_, err, _ := checked(t, placed(e, 100))
		typed += isOK(err)
	}
	if len(all) < 15000 || len(few) < 15000 || typed < 800 {
		t.Errorf("%d and %d trees, %d of them typed", len(all), len(few), typed)
	}
}

// smallTrees is all trees of up to so many parts, made of some.
func smallTrees(most int, leaves, ones, twos []api.Expr, quants []int, names []string) []api.Expr {
	by := make([][]api.Expr, most+1)
	sets := make([][]api.Expr, most+1)
	by[1] = leaves
	sets[1] = []api.Expr{of(api.ESetAll), setName("v"), of(api.ESetList)}
	for many := 2; many <= most; many++ {
		for _, kid := range by[many-1] {
			for _, e := range ones {
				by[many] = append(by[many], with(e, kid))
			}
			sets[many] = append(sets[many], of(api.ESetAround, kid), of(api.ESetList, kid))
		}
		for first := 1; first < many-1; first++ {
			pairs(by[first], by[many-1-first], func(a, b api.Expr) {
				for _, e := range twos {
					by[many] = append(by[many], with(e, a, b))
				}
				sets[many] = append(sets[many], of(api.ESetList, a, b))
			})
			pairs(sets[first], by[many-1-first], func(set, body api.Expr) {
				for _, n := range quants {
					for _, variable := range names {
						by[many] = append(by[many], quant(n, variable, set, body))
					}
				}
			})
			for second := 1; first+second < many-1; second++ {
				pairs(by[first], by[second], func(a, b api.Expr) {
					for _, c := range by[many-1-first-second] {
						by[many] = append(by[many], of(api.EIf, a, b, c))
					}
				})
			}
		}
	}
	return slices.Concat(by...)
}

func pairs(a, b []api.Expr, do func(a, b api.Expr)) {
	for _, x := range a {
		for _, y := range b {
			do(x, y)
		}
	}
}

// Trees drawn: some typed, some with a few wrong parts, some with many.
func TestT1DrawnTrees(t *testing.T) {
	for _, wrong := range []int{0, 1, 3, 10, 40, 100} {
		counts := map[api.Errno]int{}
		d := drawing(wrong)
		for i := range 6000 {
			e := placed(d.of(1+i%3, 6, 4), 1)
			_, err, _ := checked(t, e)
			counts[err]++
		}
		if wrong == 0 && counts[api.ErrTypeName]+counts[api.ErrTypeKind] > 0 {
			t.Errorf("trees of right parts: %v", counts)
		}
		if wrong > 0 && (counts[api.ErrTypeName] < 100 || counts[api.ErrTypeKind] < 100) || counts[api.OK] < 100 {
			t.Errorf("of a hundred %d are wrong: %v", wrong, counts)
		}
	}
}

// Texts drawn: the places are those of the text.
func TestT1DrawnTexts(t *testing.T) {
	d := drawing(4)
	read := 0
	for i := range 4000 {
		text, err := syntax.Print(d.of(1+i%3, 5, 4))
		if err != api.OK {
			continue
		}
		read++
		e := parsed(t, text)
		_, fault, place := checked(t, e)
		if fault == api.ErrTypeName && strings.IndexByte("vwxa", text[place]) < 0 {
			t.Errorf("%q: %d at %d", text, fault, place)
		}
	}
	if read < 2000 {
		t.Errorf("%d texts", read)
	}
}

// A tree is only looked at, with what stands behind the lengths of its lists; and it may be asked again.
func TestTreesAreNotWrittenInto(t *testing.T) {
	d := drawing(5)
	for i := range 1000 {
		e := placed(d.of(1+i%3, 5, 4), 1)
		each(&e, func(x *api.Expr) {
			x.Kids = append(make([]api.Expr, 0, len(x.Kids)+3), x.Kids...)
			spare := x.Kids[:cap(x.Kids)]
			for k := len(x.Kids); k < len(spare); k++ {
				spare[k] = api.Expr{Kind: -5, At: 77}
			}
		})
		before := spread(e)
		kind, err, place := typing.Check(e)
		if !reflect.DeepEqual(before, spread(e)) {
			t.Fatalf("%s was written into", told(e))
		}
		if again, err2, place2 := typing.Check(e); again != kind || err2 != err || place2 != place {
			t.Fatalf("%s: %d %d %d, and then %d %d %d", told(e), kind, err, place, again, err2, place2)
		}
	}
}

// spread is a copy of a tree that has what stands behind the lengths of its lists too.
func spread(e api.Expr) api.Expr {
	var kids []api.Expr
	for _, kid := range e.Kids[:cap(e.Kids)] {
		kids = append(kids, spread(kid))
	}
	e.Kids = kids
	return e
}
