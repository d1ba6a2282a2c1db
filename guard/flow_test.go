package guard_test

import (
	"slices"
	"testing"

	"isthmus/api"
)

// pending is a word that leads onward to where it is not known yet, with a state.
type pending struct {
	word int
	with plainState
}

// layer draws code that is mostly taken, whose ways part and come together.
type layer struct {
	draw   draw
	wild   int // of a thousand words so many are drawn whatever they do
	code   api.Code
	states []plainState // with which the words are come to
	ahead  []pending
	kind   int // of the answer
}

// flow draws code of about so many words.
func (l *layer) flow(many int) api.Code {
	l.code, l.states, l.ahead, l.kind = with(), nil, nil, 1+l.draw.below(3)
	now, is := plainState{}, true
	for range many {
		of := 8
		if !is {
			if now, is = l.resume(); !is {
				break
			}
			of = 1
		}
		l.meet(now, of)
		now, is = l.lay(now)
	}
	for is {
		l.end(now)
		now, is = l.resume()
	}
	return l.code
}

// resume is a state with which the next word is to be come to from one ahead.
func (l *layer) resume() (plainState, bool) {
	if len(l.ahead) == 0 {
		return plainState{}, false
	}
	return l.ahead[l.draw.below(len(l.ahead))].with, true
}

// meet makes words that lead onward with this state lead to the next word, all but one of so many.
func (l *layer) meet(now plainState, of int) {
	var rest []pending
	for _, p := range l.ahead {
		if p.with == now && (of == 1 || l.draw.below(of) > 0) {
			l.lead(p.word, len(l.code.Words))
		} else {
			rest = append(rest, p)
		}
	}
	l.ahead = rest
}

func (l *layer) lead(at, to int) {
	op, a, b := fields(l.code.Words[at])
	if op == api.OpFetch {
		b = to
	} else {
		a = to
	}
	l.code.Words[at] = word(op, a, b)
}

// lay draws a word; what is answered is the state behind it, or false, if nothing goes on behind it.
func (l *layer) lay(now plainState) (plainState, bool) {
	at := len(l.code.Words)
	l.states = append(l.states, now)
	for {
		w := l.word()
		l.code.Words = append(l.code.Words[:at], w)
		ways, e := plainWays(l.code, at, now)
		if l.draw.below(1000) < l.wild {
			return now, true
		}
		if e != api.OK || len(ways[0].with.stack) > 1 && l.draw.below(len(ways[0].with.stack)) > 4 && len(ways[0].with.stack) > len(now.stack) {
			continue
		}
		op, _, _ := fields(w)
		if len(ways) > 1 || op == api.OpJump {
			l.choose(at, ways[len(ways)-1].with)
		}
		return ways[0].with, op != api.OpJump
	}
}

// word is one that is right, but for where it leads to; it does not halt.
func (l *layer) word() uint64 {
	op := 1 + l.draw.below(27)
	a, b := 0, 0
	switch op {
	case api.OpConst:
		a = 1
		b = 1 + l.draw.below(2)
	case api.OpVar:
		a = l.draw.below(4)
	case api.OpEq:
		b = 1 + l.draw.below(3)
	case api.OpLess:
		b = l.draw.below(2)
	case api.OpCall:
		a = 1 + l.draw.below(10)
	case api.OpFetch, api.OpKeep, api.OpClear, api.OpList:
		a = l.draw.below(3)
	case api.OpBest:
		a = l.draw.below(2)
	}
	return word(op, a, b)
}

// choose draws where a word leads to: back to one that has its state, or onward.
func (l *layer) choose(at int, led plainState) {
	var back []int
	for i, s := range l.states {
		if s == led {
			back = append(back, i)
		}
	}
	if len(back) > 0 && l.draw.below(3) == 0 {
		l.lead(at, back[l.draw.below(len(back))])
		return
	}
	l.ahead = append(l.ahead, pending{at, led})
}

// end lays words that leave nothing on the stack and no round open, and halt with an answer.
func (l *layer) end(now plainState) {
	l.meet(now, 1)
	var words []string
	for i := len(now.stack) - 1; i >= 0; i-- {
		words = append(words, map[byte][]string{'i': {"i", "Less"}, 'b': {}, 'v': {"v", "Call 1"}}[now.stack[i]]...)
		words = append(words, "Some")
	}
	for range now.rounds {
		words = append(words, "Close")
	}
	for _, w := range append(words, letter(l.kind), "Halt") {
		l.code.Words = append(l.code.Words, readWord(w))
		l.states = append(l.states, plainState{rounds: -1}) // nobody leads into this
	}
}

// shuffled is the same code with its words in another order, each with one behind it that leads to the next.
func shuffled(d *draw, c api.Code) api.Code {
	many := len(c.Words)
	order := make([]int, many)
	place := make([]int, many)
	for i := range order {
		j := d.below(i + 1)
		order[i] = order[j]
		order[j] = i
	}
	for i, w := range order {
		place[w] = 1 + 2*i
	}
	to := func(n int) int {
		if n >= many {
			return 1<<28 - 1
		}
		return place[n]
	}
	words := make([]uint64, 1+2*many)
	words[0] = word(api.OpJump, place[0], 0)
	for i, w := range c.Words {
		op, a, b := fields(w)
		switch op {
		case api.OpJump, api.OpFalse, api.OpTrue, api.OpNext:
			a = to(a)
		case api.OpFetch:
			b = to(b)
		}
		words[place[i]] = word(op, a, b)
		words[place[i]+1] = word(api.OpJump, to(i+1), 0)
	}
	c.Words = words
	return c
}

// Code whose ways part and come together, and the same in another order.
func TestV1Flow(t *testing.T) {
	for _, wild := range []int{0, 3, 30} {
		l := &layer{draw: 88172645463325252, wild: wild}
		seen, stack, rounds, most := map[api.Errno]int{}, 0, 0, 0
		for i := range 3000 {
			c := l.flow(3 + i%90)
			limits, e, at := verified(t, c)
			if halts := slices.Contains(c.Words, 0); wild == 0 && ((e == api.OK) != halts || halts && limits.Kind != l.kind) {
				t.Fatalf("%v, %d at %d of %s", limits, e, at, written(c))
			}
			other := shuffled(&l.draw, c)
			if again, e2, _ := verified(t, other); again != limits || (e == api.OK) != (e2 == api.OK) {
				t.Fatalf("%v, %d and, in another order, %v, %d: %s", limits, e, again, e2, written(c))
			}
			seen[e]++
			stack, rounds, most = max(stack, limits.Stack), max(rounds, limits.Rounds), max(most, len(other.Words))
		}
		if seen[api.OK] < 100 || wild > 0 && seen[api.OK] > 2500 || rounds < 4 || stack < 8 || most < 200 {
			t.Errorf("%d: %v, %d, %d, %d", wild, seen, stack, rounds, most)
		}
	}
}

// changed is code with some of its words put in, taken out, or changed.
func changed(d *draw, c api.Code, many int) api.Code {
	words := append([]uint64(nil), c.Words...)
	for range many {
		at := d.below(len(words))
		op, a, b := fields(words[at])
		switch d.below(6) {
		case 0:
			words[at] = word(d.below(28), a, b)
		case 1:
			words[at] = word(op, d.below(len(words)+1), b)
		case 2:
			words[at] = word(op, a, d.below(4))
		case 3:
			words[at] = words[d.below(len(words))]
		case 4:
			words = append(words[:at+1], words[at:]...)
		case 5:
			if len(words) > 1 {
				words = append(words[:at], words[at+1:]...)
			}
		}
	}
	c.Words = words
	return c
}

// Code that is a change or two away from one that is taken.
func TestV1Changed(t *testing.T) {
	l := &layer{draw: 362436069362436069}
	seen := map[api.Errno]int{}
	for i := range 40000 {
		c := changed(&l.draw, l.flow(1+i%40), 1+i%3)
		_, e, _ := verified(t, c)
		seen[e]++
		_, e, _ = verified(t, shuffled(&l.draw, c))
		seen[e]++
	}
	wantSeen(t, seen, 200)
	if seen[api.ErrCodeForm] < 300 {
		t.Errorf("%v", seen)
	}
}

// Code of whatever words.
func TestV1Whatever(t *testing.T) {
	d := draw(123456789123456789)
	seen := map[api.Errno]int{}
	for range 300000 {
		var words []uint64
		for range 1 + d.below(12) {
			words = append(words, word(d.below(28), d.below(4), d.below(4)*d.below(2)))
		}
		_, e, _ := verified(t, with(words...))
		seen[e]++
	}
	if seen[api.ErrCodeForm] < 1000 || seen[api.ErrGuardStack] < 1000 {
		t.Errorf("%v", seen)
	}
}
