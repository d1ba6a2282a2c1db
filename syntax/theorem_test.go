package syntax_test

import (
	"slices"
	"strings"
	"testing"

	"isthmus/api"
	"isthmus/syntax"
)

func wantSame(t *testing.T, a, b api.Expr, want bool) {
	t.Helper()
	if plainSame(a, b) != want {
		t.Fatalf("the plain rule says %t of %s and %s", !want, told(a), told(b))
	}
	if syntax.Same(a, b) != want || syntax.Same(b, a) != want {
		t.Errorf("Same(%s, %s): %t", told(a), told(b), !want)
	}
}

func TestS4Same(t *testing.T) {
	wantSame(t, api.Expr{}, api.Expr{}, true)
	wantSame(t, api.Expr{}, api.Expr{At: 5, Kids: []api.Expr{}}, true)
	wantSame(t, of(api.ESetList), api.Expr{Kind: api.ESetList, Kids: make([]api.Expr, 0, 4)}, true)
	wantSame(t, at(3, integer(1)), at(-1<<63, integer(1)), true)
	wantSame(t, integer(1), integer(2), false)
	wantSame(t, integer(1), vertex(1), false)
	wantSame(t, name("a"), name("b"), false)
	wantSame(t, name("a"), setName("a"), false)
	wantSame(t, api.Expr{}, of(0, api.Expr{}), false)
	wantSame(t, of(api.EAdd, integer(1), integer(2)), of(api.EAdd, integer(2), integer(1)), false)
	wantSame(t, of(api.EAdd, integer(1), integer(2)), at(9, of(api.EAdd, at(8, integer(1)), at(7, integer(2)))), true)
	wantSame(t, of(api.EAdd, integer(1)), of(api.EAdd, integer(1), integer(1)), false)
	wantSame(t, api.Expr{Kind: -9, N: -9, Name: "\xff"}, api.Expr{Kind: -9, N: -9, Name: "\xff", At: 1}, true)
	wantSame(t, api.Expr{Kind: -9, N: -9, Name: "\xff"}, api.Expr{Kind: -9, N: -9, Name: "\xfe"}, false)
}

// Each field of each part counts, but for its place.
func TestS4EachFieldCounts(t *testing.T) {
	next := numbers()
	for range 2000 {
		e := drawnTree(next, 4, 4)
		parts := 0
		each(&e, func(*api.Expr) { parts++ })
		for field := range 6 {
			which := next(parts)
			other := copied(e)
			each(&other, func(x *api.Expr) {
				if which == 0 {
					switch field {
					case 0:
						x.Kind++
					case 1:
						x.N ^= 1 << 40
					case 2:
						x.Name += "x"
					case 3:
						x.Kids = append(x.Kids, integer(1))
					case 4:
						x.Kids = slices.Concat([]api.Expr{{}}, x.Kids)
					case 5:
						x.At++
					}
				}
				which--
			})
			wantSame(t, e, other, field == 5)
			wantSame(t, of(api.ENeg, e), of(api.ENeg, other), field == 5)
		}
		wantSame(t, e, unplaced(e), true)
	}
}

func TestS4Deep(t *testing.T) {
	neg := func(e api.Expr) api.Expr { return of(api.ENeg, e) }
	a, b := chain(1<<16, integer(1), neg), chain(1<<16, integer(1), neg)
	if !syntax.Same(a, b) || syntax.Same(a, chain(1<<16, integer(2), neg)) || syntax.Same(a, neg(b)) {
		t.Error("of deep trees")
	}
}

// openIn is how many openings, and how many quantifiers, are open within one another in a text.
func openIn(t *testing.T, text string) (int, int) {
	t.Helper()
	got := plainRead(text, 1<<30, 1<<30)
	if got.e != api.OK {
		t.Fatalf("%q: %d", text, got.e)
	}
	return got.open, got.quants
}

// A right tree is read again out of its print, and printed the same.
func TestS5RightTrees(t *testing.T) {
	next := numbers()
	right := 0
	for range 20000 {
		e := drawnTree(next, next(8), 4)
		text, errno := checkPrint(t, e)
		if errno != api.OK {
			continue
		}
		right++
		got, f := checkParse(t, text)
		if f != api.OK || !syntax.Same(got, e) || !syntax.Right(got) {
			t.Fatalf("%q is read as %s, %d; want %s", text, told(got), f, told(e))
		}
		if open, quants := openIn(t, text); open > 64 || quants > 4 {
			t.Fatalf("%q: %d are open, %d quantifiers", text, open, quants)
		}
		if again, f := syntax.Print(got); again != text || f != api.OK {
			t.Fatalf("%q is printed again as %q, %d", text, again, f)
		}
	}
	if right < 10000 {
		t.Errorf("only %d were right", right)
	}
}

// A text that is read has a right tree, if the print has room; and the print is read as it.
func TestS5ReadTexts(t *testing.T) {
	next := numbers()
	right, roomless := 0, 0
	for range 6000 {
		s := drawnQuery(next, 3+next(8))
		switch next(40) { // the print is longer, or opens more
		case 0:
			s = strings.Repeat("1-", 300+next(400)) + "(" + s + ")"
		case 1:
			s = strings.Repeat("1+if a then b else ", 16+next(20)) + s
		}
		tree, e := checkParse(t, s)
		if e != api.OK {
			continue
		}
		print := plainText(plainTokens(tree))
		room := len(print) <= 2000
		if room {
			open, _ := openIn(t, print)
			room = open <= 64
		}
		if syntax.Right(tree) != room {
			t.Fatalf("%q: right %t, room %t", s, !room, room)
		}
		if !room {
			roomless++
			continue
		}
		right++
		text, _ := syntax.Print(tree)
		got, e := checkParse(t, text)
		if e != api.OK || !syntax.Same(got, tree) || text != print {
			t.Fatalf("%q is printed %q and read as %s, %d", s, text, told(got), e)
		}
	}
	if right < 3000 || roomless < 20 {
		t.Errorf("%d were right, %d had no room", right, roomless)
	}
}

// Texts about the limits: the print has more bytes than the text, or more openings.
func TestS5TheEdges(t *testing.T) {
	for many := 490; many <= 510; many++ {
		tree, e := checkParse(t, "1"+strings.Repeat("+1", many))
		if e != api.OK || syntax.Right(tree) != (1+4*many <= 2000) {
			t.Errorf("of %d signs: %d, %t", many, e, syntax.Right(tree))
		}
		checkPrint(t, tree)
	}
	for many := 25; many <= 40; many++ {
		tree, e := checkParse(t, strings.Repeat("1+if a then b else ", many)+"1")
		if e != api.OK || syntax.Right(tree) != (many <= 32) {
			t.Errorf("of %d ifs: %d, %t", many, e, syntax.Right(tree))
		}
		checkPrint(t, tree)
	}
	for many := 1; many <= 66; many++ {
		e := chain(many, integer(1), func(e api.Expr) api.Expr { return of(api.EIf, integer(1), e, integer(1)) })
		text, errno := checkPrint(t, e)
		if errno != api.OK != (many > 64) {
			t.Errorf("of %d ifs: %d", many, errno)
		}
		if errno == api.OK {
			wantLike(t, text, text)
		}
	}
}
