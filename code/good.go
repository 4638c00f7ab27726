package code

import (
	"math"

	"tautochrone/api"
	"tautochrone/word"
)

// maxValue is the greatest value of good codes.
const maxValue = 1<<16 - 1

// Good tells whether codes are: not too few or too many, the last one Halt or Jump, all targets among them, all values from 0 to 65535, all operators some.
func Good(cs []api.Code) bool {
	if len(cs) < 1 || len(cs) > api.MaxCode {
		return false
	}
	last := cs[len(cs)-1].Op
	if last != api.Halt && last != api.Jump {
		return false
	}
	for _, c := range cs {
		if !sound(c, len(cs)) {
			return false
		}
	}
	return true
}

// sound tells whether one instruction may stand among n of them.
func sound(c api.Code, n int) bool {
	if c.Op < api.Set || c.Op > api.Halt {
		return false
	}
	if c.Op == api.Do && !operator(c.Do) {
		return false
	}
	if there, _ := Jumps(c); there && (c.Target < 0 || c.Target >= n) {
		return false
	}
	for _, v := range touched(c) {
		if v < 0 || v > maxValue {
			return false
		}
	}
	return true
}

// operator tells whether there is such an operator: just those bind somehow.
func operator(op api.Op) bool {
	return word.Tight(op) > 0
}

// touched are the values that an instruction takes, and the one that it sets.
func touched(c api.Code) []int {
	values := Uses(c)
	if to, ok := Defines(c); ok {
		values = append(values, to)
	}
	return values
}

// Values is one more than the greatest value that codes set or take; 0, if there is none from 0 on.
func Values(cs []api.Code) int {
	n := 0
	for _, c := range cs {
		for _, v := range touched(c) {
			// Behind the greatest int there is none: it is told for that one, too, as a count below 0 would be none.
			n = max(n, min(v, math.MaxInt-1)+1)
		}
	}
	return n
}
