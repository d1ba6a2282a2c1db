package guard_test

import (
	"fmt"
	"slices"
	"strings"
	"testing"

	"isthmus/api"
	"isthmus/guard"
)

// There may be 1024 values on the stack, and no more.
func TestV1Stack(t *testing.T) {
	for many := 1020; many <= 1030; many++ {
		for _, kind := range []int{api.KindInt, api.KindBool} {
			both := map[int]string{api.KindInt: "Mul", api.KindBool: "Eq 0 2"}[kind]
			c := read(fmt.Sprintf("%s*%d, %s*%d, Halt", letter(kind), many, both, many-1))
			if many <= 1024 {
				wantTaken(t, c, many, 0, kind)
			} else {
				wantRefused(t, c, api.ErrGuardStack, 1024)
			}
		}
	}
	wantTaken(t, read("v*1024, List 1024, Next 1027, Jump 1025, v, Halt"), 1024, 1, api.KindVertex)
	wantRefused(t, read("v*1023, List 1024"), api.ErrGuardStack, 1023)
	wantRefused(t, read("i, v*1023, List 1024"), api.ErrGuardStack, 1024)
	wantRefused(t, read("v*1024, i, List 1024"), api.ErrGuardStack, 1024)
	wantTaken(t, read("i, v*1023, List 1023, Close, Halt"), 1024, 1, api.KindInt)
}

// Each word, on a stack that is full or has room for a few: what is popped makes room for what is pushed.
func TestV1FullStack(t *testing.T) {
	for _, x := range doing {
		if x.rounds == "1" || x.rounds == "-" {
			continue
		}
		for high := 1020; high <= 1024; high++ {
			below := high - len(x.pops)
			words := append([]string{fmt.Sprint("i*", below)}, pushing(x.pops)...)
			want := api.ErrGuardJump
			if below+len(x.pushes) > 1024 {
				want = api.ErrGuardStack
			}
			c := joined(append(words, x.word)...)
			if x.word == "False" || x.word == "True" {
				c = joined(append(words, x.word+" 0")...)
			}
			wantRefused(t, c, want, high)
		}
	}
	wantRefused(t, read("All, i*1024, Var, Halt"), api.ErrGuardStack, 1025)
	wantRefused(t, read("All, i*1023, Var"), api.ErrGuardJump, 1024)
	wantRefused(t, read("All, i*1024, Close"), api.ErrGuardJump, 1025)
	wantRefused(t, read("All, i*1024, Next 1"), api.ErrGuardJump, 1025)
}

// What OpFetch pushes stands where it leads to, and is one too many all the same; that is asked ahead of the words that it comes to.
func TestV1FetchRoom(t *testing.T) {
	for _, to := range []int{0, 1023, 1024, 1025, 1026, 9999} {
		for cell := range 3 {
			fetch := fmt.Sprintf("Fetch %d %d", cell, to)
			wantRefused(t, read("i*1024, "+fetch+", Halt"), api.ErrGuardStack, 1024)
			wantRefused(t, read("i*1024, "+fetch), api.ErrGuardStack, 1024)
			wantRefused(t, read("i*1023, "+fetch), api.ErrGuardJump, 1023)
		}
	}
	wantTaken(t, read("i*1023, Fetch 0 1025, i, Add*1023, Halt"), 1024, 0, api.KindInt)
	wantTaken(t, read("i*1023, Fetch 0 1026, Jump 1027, Halt, Add, Add*1022, Halt"), 1024, 0, api.KindInt)
	wantTaken(t, read("i*1022, Fetch 0 1025, Jump 1026, Halt, Add, Add*1021, Halt"), 1023, 0, api.KindInt)
	wantTaken(t, read("i*1022, Fetch 0 1024, i, Fetch 0 1026, i, Add*1023, Halt"), 1024, 0, api.KindInt)
}

// forked is code in which two ways come to one word, with stacks that are alike below and above one value each.
func forked(below, first, second, above string) api.Code {
	push := func(stack string) []uint64 {
		var words []uint64
		for i := range len(stack) {
			words = append(words, short[stack[i:i+1]])
		}
		return words
	}
	fork := len(below) + 2
	other := fork + len(first+above) + 1
	meet := other + len(second+above)
	return with(slices.Concat(
		push(below), []uint64{short["b"], word(api.OpFalse, other, 0)},
		push(first+above), []uint64{word(api.OpJump, meet, 0)},
		push(second+above), []uint64{word(api.OpJump, meet, 0)},
	)...)
}

// Whichever value of the stack is of another kind: it is another state.
func TestV1MeetEachValue(t *testing.T) {
	for at := range 1024 {
		first := letter(1 + at%3)
		for _, second := range []string{"i", "b", "v"} {
			c := forked(strings.Repeat("v", at), first, second, strings.Repeat("b", 1023-at))
			want, place := api.ErrGuardMeet, len(c.Words)-2
			if first == second {
				want, place = api.ErrGuardStack, 0 // nothing is wrong, but that nothing halts
			}
			if at > 0 && at < 1023 && at%97 == 0 {
				wantRefused(t, c, want, place)
			}
			if limits, e, got := guard.Verify(c); limits != (api.Limits{}) || e != want || got != place {
				t.Fatalf("the value %d, %s and %s: %v, %d at %d", at, first, second, limits, e, got)
			}
		}
	}
	for high := range 130 {
		for _, above := range []string{"i", "b", "v"} {
			c := forked(strings.Repeat("vib", 50)[:high], "", above, "")
			wantRefused(t, c, api.ErrGuardMeet, len(c.Words)-2)
		}
	}
}

// There may be 32768 words, and each of them may be led to.
func TestV1Words(t *testing.T) {
	wantTaken(t, read("i, Neg*32766, Halt"), 1, 0, api.KindInt)
	wantRefused(t, read("i, Neg*32767, Halt"), api.ErrCodeForm, 0)
	wantRefused(t, read("i, Neg*32767"), api.ErrGuardJump, 32767)
	wantRefused(t, read("Neg*32768"), api.ErrGuardStack, 0)
	wantTaken(t, read("i, Jump 32767, Neg*32765, Halt"), 1, 0, api.KindInt)
	wantRefused(t, read("i, Jump 32768, Neg*32765, Halt"), api.ErrGuardJump, 1)
	wantTaken(t, read("i, Jump 32767, Neg*32764, Halt, Jump 32766"), 1, 0, api.KindInt)
	wantRefused(t, read("i*1024, Neg*31744"), api.ErrGuardJump, 32767)
	wantTaken(t, read("i*1024, Neg*30720, Add*1023, Halt"), 1024, 0, api.KindInt)
	for _, many := range []int{1, 2, 62, 63, 64, 65, 127, 128, 129, 4095} {
		wantTaken(t, read(fmt.Sprintf("i, Neg*%d, Halt", many)), 1, 0, api.KindInt)
		wantTaken(t, read(fmt.Sprintf("Jump %d, i, Halt, Var*%d, Jump 1", 3+many, many)), 1, 0, api.KindInt)
		wantRefused(t, read(fmt.Sprintf("Jump %d, i, Not, Var*%d, b, True 1, Neg", 3+many, many)), api.ErrGuardStack, 2)
	}
}

// Words that lead to one another from end to end, a lesser one and a greater one in turn.
func TestV1FarAndNear(t *testing.T) {
	const many = 32768
	words := make([]uint64, many)
	for i := range many / 2 {
		words[i] = word(api.OpJump, many-1-i, 0)
		words[many-1-i] = word(api.OpJump, i+1, 0)
	}
	wantRefused(t, with(words...), api.ErrGuardStack, 0)
	words[many/2-1], words[many/2] = short["v"], word(api.OpHalt, 0, 0)
	wantTaken(t, with(words...), 1, 0, api.KindVertex)
	words[many/2] = word(api.OpJump, 0, 0)
	wantRefused(t, with(words...), api.ErrGuardMeet, many/2)
}
