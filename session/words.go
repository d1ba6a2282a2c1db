package session

import (
	"strconv"
	"strings"

	"isthmus/api"
)

// done tells how a change ended.
func done(e api.Errno) string {
	if e != api.OK {
		return refused(e)
	}
	return "ok"
}

func refused(e api.Errno) string { return "error " + strconv.Itoa(int(e)) }

// answered tells an answer, and what it took.
func answered(a api.Answer, took int) string {
	return answerText(a) + " " + strconv.Itoa(took)
}

func answerText(a api.Answer) string {
	switch {
	case a.Fault != 0:
		return "fault " + strconv.Itoa(a.Fault)
	case a.Kind == api.KindInt:
		return "int " + strconv.Itoa(a.N)
	case a.Kind == api.KindVertex:
		return "vertex " + strconv.Itoa(a.N)
	}
	return strconv.FormatBool(a.N == 1)
}

// listed tells a word, and behind it each of some things.
func listed[T any](word string, things []T, textOf func(T) string) string {
	var b strings.Builder
	b.WriteString(word)
	for _, thing := range things {
		b.WriteByte(' ')
		b.WriteString(textOf(thing))
	}
	return b.String()
}

func vertexText(v api.Vertex) string {
	return strconv.Itoa(v.ID) + ":" + strconv.Itoa(v.Value)
}

func edgeText(x api.Edge) string {
	ends := strconv.Itoa(min(x.U, x.V)) + "-" + strconv.Itoa(max(x.U, x.V))
	return strconv.Itoa(x.ID) + ":" + ends + ":" + strconv.Itoa(x.Weight)
}
