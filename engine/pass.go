package engine

import (
	"isthmus/api"
	"isthmus/fold"
	"isthmus/hoist"
	"isthmus/share"
)

// maxPasses is how many passes there may be.
const maxPasses = 8

// passOf is what a pass does; nil, if there is no such pass.
func passOf(pass int) func(api.Plan) (api.Plan, api.Errno) {
	switch pass {
	case api.PassFold:
		return fold.Fold
	case api.PassReps:
		return share.Reps
	case api.PassHoist:
		return hoist.Hoist
	case api.PassShare:
		return share.Share
	}
	return nil
}

// checkPasses tells the place of the first pass that there is not, or that is one too many.
func checkPasses(passes []int) (api.Errno, int) {
	for at, pass := range passes {
		if at == maxPasses || passOf(pass) == nil {
			return api.ErrEnginePass, at
		}
	}
	return api.OK, 0
}

// passed is a plan behind all passes.
func passed(p api.Plan, passes []int) (api.Plan, api.Errno) {
first:
	if len(passes) == 0 {
		return p, api.OK
	}
	p, e := passOf(passes[0])(p)
	if e != api.OK {
		return api.Plan{}, e
	}
	passes = passes[1:]
	goto first
}
