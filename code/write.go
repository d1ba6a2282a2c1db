package code

import (
	"isthmus/api"
	"isthmus/pack"
)

// mark is what the bytes of all code begin with.
const mark = "IC1"

const sumBytes = 8

// Limits for which api has no name of their own.
const (
	mostConsts = 32768
	mostNames  = api.MaxSource
	mostField  = 1<<28 - 1 // of a word's numbers (layer 1)
)

// body is the bytes of code ahead of its sum.
func body(c api.Code) string {
	b := []byte(mark)
	b = lay(b, c.Words, pack.Put)
	b = lay(b, c.Consts, constant)
	b = lay(b, c.Names, named)
	b = lay(b, c.Cells, number)
	return string(b)
}

// lay puts a list behind bytes: how many there are, and each one.
func lay[T any](b []byte, list []T, bytes func(T) string) []byte {
	b = append(b, number(len(list))...)
	for _, one := range list {
		b = append(b, bytes(one)...)
	}
	return b
}

func number(n int) string { return pack.Put(uint64(n)) }

func constant(n int) string { return pack.Put(pack.Zig(int64(n))) }

func named(s string) string { return number(len(s)) + s }

// sealed is bytes with their sum behind them.
func sealed(body string) string {
	h := sum(body)
	var seal [sumBytes]byte
	for i := range seal {
		seal[i] = byte(h >> (8 * i))
	}
	return body + string(seal[:])
}

func sum(body string) uint64 {
	var h uint64
	for i := range len(body) {
		h = pack.Mix(h, int64(body[i]))
	}
	return h
}
