package session_test

import (
	"strings"
	"testing"

	"isthmus/api"
	"isthmus/session"
)

// Each row of the table as it may be, first with what begins a session.
var right = []string{
	"graph 9 9", "vertex 1 2", "unvertex 1", "value 1 2", "edge 1 2 3 4", "unedge 1", "weight 1 2", "set a", "unset a", "put a 1", "take a 1", "fuel 1", "passes 1", "ask 1", "mean 1", "code 1", "text 1", "vertices", "edges", "forest", "bridges", "members a", "around 1",
}

// Each row with more or less behind its word, or other blanks, may not be.
func TestY1Parts(t *testing.T) {
	for _, l := range right {
		played(t, l)
		word, rest, more := strings.Cut(l, " ")
		wrong := []string{"", " " + l, strings.ToUpper(l), "x" + l, l[1:], strings.Replace(l, word, word+"s", 1), strings.Replace(l, word, word+"\t", 1), word + "\r"}
		if !more {
			wrong = append(wrong, l+" ", l+" 1", l+" a", l+"\r")
		} else if word != "ask" && word != "mean" && word != "code" && word != "text" {
			wrong = append(wrong, word, word+" ", l+" ", l+" 1", l+" a", word+"  "+rest, l[:strings.LastIndex(l, " ")], l[:strings.LastIndex(l, " ")]+" ", strings.Replace(l, " ", "\t", 1), word+rest)
		} else {
			wrong = append(wrong, word, word+" ", word+"\t1", word+rest)
		}
		for _, x := range wrong {
			refuses(t, x+"\n", api.ErrSessionLine, 1)
			refuses(t, "edges\n"+x+"\n"+x+"\n", api.ErrSessionLine, 2)
		}
	}
	refuses(t, "put 1 a\n", api.ErrSessionLine, 1)
	refuses(t, "edge 1 2 3\n", api.ErrSessionLine, 1)
	refuses(t, "edge 1 2 3 4 5\n", api.ErrSessionLine, 1)
}

func TestY1Numbers(t *testing.T) {
	for _, n := range []string{"0", "1", "-1", "10", "-10", "909", "4611686018427387903", "-4611686018427387904", "1099511627777"} {
		for _, l := range []string{"graph # 1", "graph 1 #", "vertex # 1", "vertex 1 #", "unvertex #", "value # 1", "value 1 #", "edge # 1 2 3", "edge 1 # 2 3", "edge 1 2 # 3", "edge 1 2 3 #", "unedge #", "weight # 1", "weight 1 #", "put a #", "take a #", "fuel #", "around #"} {
			played(t, strings.Replace(l, "#", n, 1))
		}
	}
	for _, n := range []string{"", "00", "01", "-0", "-01", "+1", "--1", "-", "1-", "1.0", "1e3", "0x1", "1_0", "a", "1a", "١", "4611686018427387904", "-4611686018427387905", "9223372036854775807", "9223372036854775808", "18446744073709551617", "-18446744073709551615", "99999999999999999999999999", "1\r", "1\t", "\x001", "@1", strings.Repeat("1", 2000)} {
		for _, l := range []string{"graph # 1", "graph 1 #", "vertex # 1", "vertex 1 #", "unvertex #", "value # 1", "value 1 #", "edge # 1 2 3", "edge 1 # 2 3", "edge 1 2 # 3", "edge 1 2 3 #", "unedge #", "weight # 1", "weight 1 #", "put a #", "take a #", "fuel #", "around #"} {
			refuses(t, strings.Replace(l, "#", n, 1)+"\n", api.ErrSessionLine, 1)
		}
	}
}

func TestY1Names(t *testing.T) {
	for _, name := range []string{"a", "in", "A", "7", "-", "a\tb", "a\r", "\x00", "\xff\xfe", "é", "{", strings.Repeat("a", 20), strings.Repeat("é", 10), strings.Repeat("\xff", 20)} {
		for _, l := range []string{"set #", "unset #", "put # 1", "take # 1", "members #"} {
			played(t, strings.Replace(l, "#", name, 1))
		}
	}
	for _, name := range []string{"", " ", "a b", " a", strings.Repeat("a", 21), strings.Repeat("é", 11), strings.Repeat("\xff", 21)} {
		for _, l := range []string{"set #", "unset #", "put # 1", "take # 1", "members #"} {
			refuses(t, strings.Replace(l, "#", name, 1)+"\n", api.ErrSessionLine, 1)
		}
	}
}

func TestY1Passes(t *testing.T) {
	for _, passes := range []string{"-", "0", "1", "9", "12", "00", "1234", "012345678", "999999999"} {
		played(t, "passes "+passes)
	}
	for _, passes := range []string{"", "--", "-1", "1-", "1 2", "1,2", "a", "1a", "+1", "1234567890", "0000000000", "/", ":", "١", "- ", "1\r"} {
		refuses(t, "passes "+passes+"\n", api.ErrSessionLine, 1)
	}
}

// A query is all that is left behind the first blank, blanks too, and may be any bytes.
func TestY1Queries(t *testing.T) {
	follow(t, "graph 1 1 -> ok\nask  1 -> int 1 2\nask 1  -> int 1 2\nask   -> error 120 at 1\nmean  1 +  2  -> int 3 3\ntext   1\t+\r2 -> 1 + 2\nask \x00 -> error 110 at 0\ntext 1 \xff -> error 110 at 2\nask ask 1 -> error 120 at 4")
	for _, word := range []string{"ask", "mean", "code", "text"} {
		refuses(t, word+"\n", api.ErrSessionLine, 1)
		refuses(t, word+" \n", api.ErrSessionLine, 1)
	}
}

// A line has at most 2100 bytes, without its line feed.
func TestY1LongLines(t *testing.T) {
	for _, word := range []string{"ask", "mean", "code", "text"} {
		most := word + strings.Repeat(" ", 2100-len(word)-1) + "1"
		if told := played(t, "graph 1 1", most)[1]; told != "error 113 at 0" {
			t.Errorf("%s: %q", word, told)
		}
		refuses(t, "edges\n"+most+" \n", api.ErrSessionLine, 2)
		refuses(t, "edges\n"+most+" ", api.ErrSessionLine, 2)
		refuses(t, "edges\n"+strings.Repeat(" ", 100000)+"\n", api.ErrSessionLine, 2)
		full := word + " " + strings.Repeat(" ", 1999) + "1"
		if told := played(t, "graph 1 1", full)[1]; strings.HasPrefix(told, "error") {
			t.Errorf("%s: %q", word, told)
		}
	}
}

// Lines are counted ahead of all else; what stands behind the last line feed is one, too.
func TestY1ManyLines(t *testing.T) {
	for _, l := range []string{"edges\n", "ask 1\n", "fuel 1\n"} {
		for _, many := range []int{1, 2, 119, 120} {
			if told, e, at := session.Run(strings.Repeat(l, many)); e != api.OK || at != 0 || strings.Count(told, "\n") != many {
				t.Errorf("%d times %q: %q, %d, %d", many, l, told, e, at)
			}
		}
		refuses(t, strings.Repeat(l, 119)+"edges", api.ErrSessionLine, 120)
		refuses(t, strings.Repeat(l, 119)+"\n", api.ErrSessionLine, 120)
		for _, rest := range []string{"x", " ", "edges", "\n", "edges\n", "\n\n", "edges\nx"} {
			refuses(t, strings.Repeat(l, 120)+rest, api.ErrSessionLong, 0)
		}
	}
	refuses(t, strings.Repeat("\n", 120), api.ErrSessionLine, 1)
	refuses(t, strings.Repeat("\n", 121), api.ErrSessionLong, 0)
	refuses(t, strings.Repeat("\n", 100000), api.ErrSessionLong, 0)
	refuses(t, strings.Repeat("x\n", 119)+strings.Repeat("x", 2101), api.ErrSessionLine, 1)
	refuses(t, strings.Repeat("x\n", 120)+strings.Repeat("x", 2101), api.ErrSessionLong, 0)
}

// The first line that may not be is told, whatever is wrong with it or behind it.
func TestY1FirstLine(t *testing.T) {
	refuses(t, "", api.ErrSessionLine, 1)
	refuses(t, "\n", api.ErrSessionLine, 1)
	refuses(t, " ", api.ErrSessionLine, 1)
	refuses(t, "edges", api.ErrSessionLine, 1)
	long := "ask " + strings.Repeat("1", 2097)
	for i, wrong := range []string{"x", "", "fuel", long} {
		for j, other := range []string{"x", "", "fuel", long} {
			refuses(t, wrong+"\nedges\n"+other+"\n", api.ErrSessionLine, 1)
			refuses(t, "edges\n"+wrong+"\nedges\n"+other, api.ErrSessionLine, 2)
			if i < j {
				refuses(t, "edges\nfuel 1\nedges\n"+other+"\n"+wrong+"\nedges", api.ErrSessionLine, 4)
			}
		}
	}
	refuses(t, "edges\nedges", api.ErrSessionLine, 2)
	refuses(t, "edges\nedges\n\n", api.ErrSessionLine, 3)
	refuses(t, "edges\r\nedges\r\n", api.ErrSessionLine, 1)
	refuses(t, "edges\redges\r", api.ErrSessionLine, 1)
	refuses(t, "\ufeffedges\n", api.ErrSessionLine, 1)
}
