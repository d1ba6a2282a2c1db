// Package reckon is what layers that reckon have in common: numbers of 64 bits, and the faults that lie beyond them.
package reckon

import (
	"math"

	"isthmus/api"
)

// NoFault is what there is beside a worth.
const NoFault = 0

// Worth is what an operation (a part whose worth comes of its kids' worths alone) makes of these, or a fault. If it has one kid, that is the left one, and the right one counts for nothing.
func Worth(kind, left, right int) (worth, fault int) {
	switch kind {
	case api.ENeg:
		return Minus(0, left)
	case api.ENot:
		return Truth(left == 0), NoFault
	case api.EAdd:
		return Plus(left, right)
	case api.ESub:
		return Minus(left, right)
	case api.EMul:
		return Times(left, right)
	case api.EDiv:
		return Quotient(left, right)
	case api.ERem:
		return Rest(left, right)
	case api.EEq:
		return Truth(left == right), NoFault
	case api.ENe:
		return Truth(left != right), NoFault
	case api.ELess:
		return Truth(left < right), NoFault
	}
	return Truth(left <= right), NoFault // EAtMost
}

// Truth is a truth's number.
func Truth(is bool) int {
	if is {
		return 1
	}
	return 0
}

// Plus is a sum, or a fault.
func Plus(a, b int) (sum, fault int) {
	sum = a + b
	if (sum > a) != (b > 0) {
		return 0, api.FaultOverflow
	}
	return sum, NoFault
}

// Minus is a difference, or a fault.
func Minus(a, b int) (difference, fault int) {
	difference = a - b
	if (difference < a) != (b > 0) {
		return 0, api.FaultOverflow
	}
	return difference, NoFault
}

// Times is a product, or a fault.
func Times(a, b int) (product, fault int) {
	if a == 0 || b == 0 {
		return 0, NoFault
	}
	product = a * b
	// The sign tells of the least number by -1, whose quotient wraps round, too.
	if product/b != a || (product < 0) != ((a < 0) != (b < 0)) {
		return 0, api.FaultOverflow
	}
	return product, NoFault
}

// Quotient is one that is cut towards 0, or a fault.
func Quotient(a, b int) (quotient, fault int) {
	if b == 0 {
		return 0, api.FaultZero
	}
	if a == math.MinInt && b == -1 {
		return 0, api.FaultOverflow
	}
	return a / b, NoFault
}

// Rest is what a division leaves, of the sign of what is divided, or a fault.
func Rest(a, b int) (rest, fault int) {
	if b == 0 {
		return 0, api.FaultZero
	}
	return a % b, NoFault
}
