package engine_test

import (
	"math"
	"strings"
	"testing"

	"isthmus/api"
	"isthmus/engine"
	"isthmus/plan"
	"isthmus/syntax"
)

// wantRefused holds both ways to what is said of a text and passes: each in the place that it has.
func wantRefused(t *testing.T, text string, list []int, want api.Errno, place int) {
	t.Helper()
	checked(t, text, list)
	if q, e, at := engine.Compile(text, list); q != nil || e != want || at != place {
		t.Errorf("%q by %v: %v, %d at %d; wanted %d at %d", text, list, q, e, at, want, place)
	}
}

// The chapter's examples.
func TestExamples(t *testing.T) {
	wantRefused(t, "1 +", nil, api.ErrSyntaxToken, 3)
	wantRefused(t, "1 + true", nil, api.ErrTypeKind, 4)
	wantRefused(t, "1", []int{1, 5}, api.ErrEnginePass, 1)
	q := checked(t, "1 + 2 * 3", []int{api.PassFold})
	words := q.Code().Words
	if len(words) != 2 || words[0]>>56 != api.OpConst || words[1]>>56 != api.OpHalt || q.Bound(64) != 2 {
		t.Errorf("%v, %d", words, q.Bound(64))
	}
	s := docGraph(t)
	if a, steps := q.Ask(s, 100); a != isInt(7) || steps != 2 {
		t.Errorf("%v, %d", a, steps)
	}
	if a, _ := checked(t, "sum v in vertices: size(@1)", []int{api.PassHoist}).Ask(s, 1000); a != isInt(20) {
		t.Errorf("%v", a)
	}
}

// What is wrong with a text is told ahead of what is wrong with the passes.
func TestG1Order(t *testing.T) {
	for text, want := range map[string]struct {
		e  api.Errno
		at int
	}{
		"$": {api.ErrLexByte, 0}, "1 ? 2": {api.ErrLexByte, 2}, "a!b": {api.ErrLexByte, 1}, "a1 <= 07": {api.ErrLexNumber, 6}, "9223372036854775808": {api.ErrLexNumber, 0}, "Abc": {api.ErrLexName, 0}, "@1 = abcdefghijklm": {api.ErrLexName, 5}, "1 + $ + 07": {api.ErrLexByte, 4}, "1 1 $": {api.ErrLexByte, 4},
		"": {api.ErrSyntaxToken, 0}, " \n": {api.ErrSyntaxToken, 2}, "1 +": {api.ErrSyntaxToken, 3}, "connected(@1 @2)": {api.ErrSyntaxToken, 13}, "a = b = c": {api.ErrSyntaxToken, 6}, "{1}": {api.ErrSyntaxToken, 0}, "all v in (x): true": {api.ErrSyntaxToken, 9}, "true + )": {api.ErrSyntaxToken, 7},
		strings.Repeat("(", 65) + "1": {api.ErrSyntaxDeep, 64}, "sum a in x: sum b in x: sum c in x: sum d in x: sum e in x: 1": {api.ErrSyntaxDeep, 48},
		"v = @1": {api.ErrTypeName, 0}, "all v in vertices: v = w": {api.ErrTypeName, 23}, "sum v in {v}: 1": {api.ErrTypeName, 10}, "1 + true": {api.ErrTypeKind, 4}, "connected(@1, 2)": {api.ErrTypeKind, 14}, "if 1 then 2 else true": {api.ErrTypeKind, 3}, "(true and 1) + 2": {api.ErrTypeKind, 10}, "true + v": {api.ErrTypeKind, 0},
		strings.Repeat("1", 2001): {api.ErrLexLong, 0}, strings.Repeat("1", 2000): {api.ErrLexNumber, 0}, "1" + strings.Repeat("+1", 500): {api.ErrSyntaxTree, 0}, "true" + strings.Repeat("+1", 500): {api.ErrSyntaxTree, 0},
	} {
		for _, list := range [][]int{nil, {}, {1}, {4, 3, 2, 1}, {0}, {5}, {1, 9}, {1, 2, 3, 4, 1, 2, 3, 4, 1}} {
			wantRefused(t, text, list, want.e, want.at)
		}
	}
}

// A text that is read, and whose tree has no room as a text: its print is longer, or opens more.
func TestG1Room(t *testing.T) {
	for many := 490; many <= 510; many++ {
		text := "1" + strings.Repeat("+1", many)
		if q := checked(t, text, []int{1}); (q != nil) != (many < 500) {
			t.Errorf("of %d signs: %v", many, q)
		}
	}
	for many := 25; many <= 40; many++ {
		text := strings.Repeat("1+if true then 2 else ", many) + "1"
		if q := checked(t, text, nil); (q != nil) != (many <= 32) {
			t.Errorf("of %d ifs: %v", many, q)
		}
		wantRefused(t, text+"+true", nil, []api.Errno{api.ErrTypeKind, api.ErrSyntaxTree}[truth(many > 32)], truth(many <= 32)*(len(text)+1))
	}
	blanks := strings.Repeat(" ", 1999)
	if checked(t, blanks+"1", nil) == nil || checked(t, "1"+blanks, nil) == nil {
		t.Error("of blanks")
	}
	wantRefused(t, blanks+" 1", nil, api.ErrLexLong, 0)
	wantRefused(t, blanks+"-", nil, api.ErrSyntaxToken, 2000)
}

// The first pass that is none, or the 9th one, whichever is ahead; whatever stands behind it.
func TestG1Passes(t *testing.T) {
	wrong := []int{0, 5, -1, 6, 9, math.MaxInt, math.MinInt, 1 << 32, 1<<32 + 1, 257}
	for many := range 20 {
		for first := range 4 {
			var list []int
			for i := range many {
				list = append(list, 1+(first+i)%4)
			}
			if many <= 8 {
				if checked(t, "sum v in vertices: size(@1)", list) == nil {
					t.Errorf("%v are refused", list)
				}
			} else {
				wantRefused(t, "1", list, api.ErrEnginePass, 8)
			}
			for at := range list {
				was := list[at]
				list[at] = wrong[(at+many+first)%len(wrong)]
				wantRefused(t, "1", list, api.ErrEnginePass, min(at, 8))
				if behind := at + first; behind < many {
					second := list[behind]
					list[behind] = 0
					wantRefused(t, "1", list, api.ErrEnginePass, min(at, 8))
					list[behind] = second
				}
				list[at] = was
			}
		}
	}
	for _, pass := range wrong {
		wantRefused(t, "1", []int{pass}, api.ErrEnginePass, 0)
	}
	wantRefused(t, "1", make([]int, 1<<16), api.ErrEnginePass, 0)
	wantRefused(t, "1", append([]int{1, 2, 3, 4, 3, 2, 1, 4}, make([]int, 1<<16)...), api.ErrEnginePass, 8)
}

// Each pass does what its layer does, and nothing else; the order is that of the list.
func TestG1EachPass(t *testing.T) {
	same := func(text string, list []int, want string) {
		t.Helper()
		a, b := checked(t, text, list).Plan(), checked(t, want, nil).Plan()
		if !plan.Same(a, b) {
			t.Errorf("%q by %v is %v, wanted %v", text, list, a, b)
		}
	}
	text := "sum v in few: if connected(v, @1) then 1 + 2 else size(@1) * size(@1)"
	same(text, nil, text)
	same(text, []int{api.PassFold}, "sum v in few: if connected(v, @1) then 3 else size(@1) * size(@1)")
	same(text, []int{api.PassReps}, "sum v in few: if rep(v) = rep(@1) then 1 + 2 else size(@1) * size(@1)")
	same(text, []int{api.PassFold, api.PassReps}, "sum v in few: if rep(v) = rep(@1) then 3 else size(@1) * size(@1)")
	for _, x := range []struct {
		list  []int
		cells int
	}{
		{nil, 0}, {[]int{1}, 0}, {[]int{2}, 0}, {[]int{3}, 2}, {[]int{4}, 1}, {[]int{3, 4}, 2}, {[]int{4, 3}, 1}, {[]int{2, 3}, 3}, {[]int{3, 2}, 2}, {[]int{3, 2, 3}, 3}, {[]int{2, 4, 3}, 2}, {[]int{4, 4, 4, 4, 4, 4, 4, 4}, 1}, {[]int{4, 4, 4, 4, 4, 4, 2, 3}, 2}, {[]int{2, 4, 4, 4, 4, 4, 4, 3}, 2},
	} {
		if p := checked(t, text, x.list).Plan(); len(p.Cells) != x.cells {
			t.Errorf("by %v: %v", x.list, p)
		}
	}
}

// All lists of passes of queries that each pass changes; and texts that are drawn, by lists that are drawn.
func TestG1Queries(t *testing.T) {
	for _, text := range theQueries {
		for _, list := range passLists(4) {
			if checked(t, text, list) == nil {
				t.Fatalf("%q by %v is refused", text, list)
			}
		}
	}
	next := numbers()
	a := asker{next: next}
	for i := range 3000 {
		text := loose(a.query(1+i%3, 2+i%5), next)
		if len(text) <= 1500 && checked(t, text, drawnPasses(next, 8)) == nil {
			t.Fatalf("%q is refused", text)
		}
	}
}

// Texts with something wrong in them, by passes that are there or not.
func TestG1WrongTexts(t *testing.T) {
	next := numbers()
	a := asker{next: next}
	pieces := strings.Fields("1 07 true @ @1 v a few ( ) { } , : + - * = < ! <= not and or if then else all sum in vertices around size connected Abc $ rep")
	seen := map[api.Errno]int{}
	for i := range 20000 {
		words := strings.Split(a.query(1+i%3, 1+i%4), " ")
		for range next(3) {
			at := next(len(words))
			words[at] = []string{pieces[next(len(pieces))], words[at] + pieces[next(len(pieces))], words[next(len(words))]}[next(3)]
		}
		list := drawnPasses(next, 8)
		if next(4) == 0 {
			list = append(list, next(7)-1, next(7)-1)
		}
		text := loose(strings.Join(words, " "), next)
		checked(t, text, list)
		_, e, _ := engine.Compile(text, list)
		seen[e]++
	}
	for _, e := range []api.Errno{api.OK, api.ErrLexByte, api.ErrLexNumber, api.ErrLexName, api.ErrSyntaxToken, api.ErrTypeName, api.ErrTypeKind, api.ErrEnginePass} {
		if seen[e] < 50 {
			t.Errorf("so often each error came: %v", seen)
		}
	}
}

// Whatever bytes a text has, it is refused as the layers say.
func TestG1Bytes(t *testing.T) {
	next := numbers()
	for range 3000 {
		text := make([]byte, next(12))
		for i := range text {
			text[i] = byte(next(256))
		}
		checked(t, string(text), nil)
	}
	for b := range 256 {
		checked(t, string([]byte{byte(b)}), nil)
		checked(t, "1"+string([]byte{byte(b)})+"2", []int{0})
	}
	checked(t, strings.Repeat("\xff", 1<<20), nil)
}

// As great as a text has room for: many parts, calls, cells, values on the stack, words. All of it is taken.
func TestG1Great(t *testing.T) {
	for _, text := range greatQueries() {
		if print, e := syntax.Print(parsed(t, text)); len(text) > 2000 || len(print) < 1900 || e != api.OK {
			t.Fatalf("%q: %d bytes, printed %d, %d", text, len(text), len(print), e)
		}
		for _, list := range append(passLists(2), []int{1, 2, 3, 4, 1, 2, 3, 4}, []int{4, 3, 2, 1, 4, 3, 2, 1}) {
			if checked(t, text, list) == nil {
				t.Fatalf("%q by %v is refused", text, list)
			}
		}
	}
}
