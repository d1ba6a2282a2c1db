package guard_test

import (
	"strings"

	"isthmus/api"
	"isthmus/code"
)

// table is the chapter's: an operation, what it pops and pushes, a letter for each kind, and what else must be. A `B` is the kind that the word's B tells, a `C` that of its cell.
const table = `
OpConst - B
OpVertex - v
OpVar - v bound
OpNeg i i
OpNot b b
OpAdd ii i
OpSub ii i
OpMul ii i
OpDiv ii i
OpRem ii i
OpEq BB b
OpLess ii b
OpJump - -
OpFalse b -
OpTrue b -
CallConnected vv b
CallBlock vv b
CallBottleneck vv i
CallSize v i
CallTotal v i
CallLeast v i
CallMost v i
CallValue v i
CallDegree v i
CallRep v v
OpFetch - -
OpKeep C C
OpClear - -
OpAll - - fewer
OpNamed - - fewer
OpAround v - fewer
OpList list - fewer
OpNext - - open
OpClose - - open
OpBest ibi ib
OpSome b -
`

// The names of operations and calls, by their numbers.
var (
	operations = strings.Fields("OpHalt OpConst OpVertex OpVar OpNeg OpNot OpAdd OpSub OpMul OpDiv OpRem OpEq OpLess OpJump OpFalse OpTrue OpCall OpFetch OpKeep OpClear OpAll OpNamed OpAround OpList OpNext OpClose OpBest OpSome")
	calls      = strings.Fields("- CallConnected CallBlock CallBottleneck CallSize CallTotal CallLeast CallMost CallValue CallDegree CallRep")
)

const letters = "-ibv" // of kinds

func letter(kind int) string { return letters[kind : kind+1] }

// rows are those of the table, cut at its spaces.
var rows = readTable()

func readTable() map[string][]string {
	rows := map[string][]string{}
	for _, line := range strings.Split(strings.TrimSpace(table), "\n") {
		fields := append(strings.Fields(line), "")
		for i, field := range fields {
			fields[i] = strings.Trim(field, "-")
		}
		rows[fields[0]] = fields[1:]
	}
	return rows
}

// plainRow is a word's row.
func plainRow(op string, a, b int, cells []int) (pops, pushes, must string) {
	name := op
	if op == "OpCall" {
		name = calls[a]
	}
	row := rows[name]
	pops, pushes, must = row[0], row[1], row[2]
	switch op {
	case "OpConst", "OpEq":
		pops, pushes = strings.ReplaceAll(pops, "B", letter(b)), strings.ReplaceAll(pushes, "B", letter(b))
	case "OpKeep":
		pops, pushes = letter(cells[a]), letter(cells[a])
	case "OpList":
		pops = strings.Repeat("v", a)
	}
	return pops, pushes, must
}

// plainState is the kinds on the stack, a letter each, and how many rounds are open.
type plainState struct {
	stack  string
	rounds int
}

// way is a word that is come to.
type way struct {
	to   int
	with plainState
}

// plainMust tells whether what must be is.
func plainMust(must string, a, rounds int) bool {
	switch must {
	case "bound":
		return a < rounds
	case "fewer":
		return rounds < 4
	case "open":
		return rounds > 0
	}
	return true
}

// plainWays are those on from a word that does not halt; or the error of what it does to the stack.
func plainWays(c api.Code, at int, s plainState) ([]way, api.Errno) {
	number, a, b := fields(c.Words[at])
	op := operations[number]
	pops, pushes, must := plainRow(op, a, b, c.Cells)
	rest, is := strings.CutSuffix(s.stack, pops)
	if !is && op == "OpKeep" && s.stack != "" {
		return nil, api.ErrGuardCell
	}
	if !is || !plainMust(must, a, s.rounds) {
		return nil, api.ErrGuardStack
	}
	behind := plainState{rest + pushes, s.rounds}
	if must == "fewer" {
		behind.rounds++
	}
	if op == "OpClose" {
		behind.rounds--
	}
	ways := []way{{at + 1, behind}}
	switch op {
	case "OpJump":
		ways = []way{{a, behind}}
	case "OpFalse", "OpTrue":
		ways = append(ways, way{a, behind})
	case "OpNext":
		ways = append(ways, way{a, plainState{behind.stack, behind.rounds - 1}})
	case "OpFetch":
		ways = append(ways, way{b, plainState{behind.stack + letter(c.Cells[a]), behind.rounds}})
	}
	for _, w := range ways {
		if len(w.with.stack) > 1024 {
			return nil, api.ErrGuardStack
		}
	}
	return ways, api.OK
}

// plainLook is a look over code, word by word.
type plainLook struct {
	code   api.Code
	come   []*plainState
	looked []bool
	limits api.Limits
}

// plainVerify is V1, as it is written.
func plainVerify(c api.Code) (api.Limits, api.Errno, int) {
	if !code.Right(c) {
		return api.Limits{}, api.ErrCodeForm, 0
	}
	l := &plainLook{code: c, come: make([]*plainState, len(c.Words)), looked: make([]bool, len(c.Words))}
	l.come[0] = &plainState{}
	for at := 0; at < len(c.Words); {
		if l.come[at] == nil || l.looked[at] {
			at++
			continue
		}
		l.looked[at] = true
		if e := l.look(at); e != api.OK {
			return api.Limits{}, e, at
		}
		at = 0
	}
	if l.limits.Kind == 0 {
		return api.Limits{}, api.ErrGuardStack, 0
	}
	return l.limits, api.OK, 0
}

func (l *plainLook) look(at int) api.Errno {
	s := *l.come[at]
	l.limits.Stack, l.limits.Rounds = max(l.limits.Stack, len(s.stack)), max(l.limits.Rounds, s.rounds)
	if op, _, _ := fields(l.code.Words[at]); op == api.OpHalt {
		return l.halt(s)
	}
	ways, e := plainWays(l.code, at, s)
	if e != api.OK {
		return e
	}
	for _, w := range ways {
		if w.to >= len(l.come) {
			return api.ErrGuardJump
		}
		if was := l.come[w.to]; was != nil && *was != w.with {
			return api.ErrGuardMeet
		}
		l.come[w.to] = &w.with
	}
	return api.OK
}

func (l *plainLook) halt(s plainState) api.Errno {
	if len(s.stack) != 1 || s.rounds != 0 {
		return api.ErrGuardStack
	}
	kind := strings.Index(letters, s.stack)
	if l.limits.Kind != 0 && l.limits.Kind != kind {
		return api.ErrGuardMeet
	}
	l.limits.Kind = kind
	return api.OK
}
