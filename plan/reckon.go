package plan

import (
	"math"

	"isthmus/api"
)

// noFault is what there is beside a worth.
const noFault = 0

// reckon is what an operation makes of its kids' worths, or a fault.
func reckon(which int, of []int) (int, int) {
	switch which {
	case api.ENeg:
		return minus(0, of[0])
	case api.ENot:
		return truth(of[0] == 0), noFault
	case api.EAdd:
		return plus(of[0], of[1])
	case api.ESub:
		return minus(of[0], of[1])
	case api.EMul:
		return times(of[0], of[1])
	case api.EDiv:
		return quotient(of[0], of[1])
	case api.ERem:
		return rest(of[0], of[1])
	case api.EEq:
		return truth(of[0] == of[1]), noFault
	case api.ENe:
		return truth(of[0] != of[1]), noFault
	case api.ELess:
		return truth(of[0] < of[1]), noFault
	}
	return truth(of[0] <= of[1]), noFault // EAtMost
}

func truth(is bool) int {
	if is {
		return 1
	}
	return 0
}

func plus(a, b int) (int, int) {
	sum := a + b
	if (sum > a) != (b > 0) {
		return 0, api.FaultOverflow
	}
	return sum, noFault
}

func minus(a, b int) (int, int) {
	difference := a - b
	if (difference < a) != (b > 0) {
		return 0, api.FaultOverflow
	}
	return difference, noFault
}

func times(a, b int) (int, int) {
	if a == 0 || b == 0 {
		return 0, noFault
	}
	product := a * b
	// The sign tells of the least number by -1, whose quotient wraps round, too.
	if product/b != a || (product < 0) != ((a < 0) != (b < 0)) {
		return 0, api.FaultOverflow
	}
	return product, noFault
}

func quotient(a, b int) (int, int) {
	if b == 0 {
		return 0, api.FaultZero
	}
	if a == math.MinInt && b == -1 {
		return 0, api.FaultOverflow
	}
	return a / b, noFault
}

func rest(a, b int) (int, int) {
	if b == 0 {
		return 0, api.FaultZero
	}
	return a % b, noFault
}
