// Package word does what operators ask for: layer 1.
package word

import (
	"math/bits"

	"tautochrone/api"
)

// Apply is what an operator makes of two words; 0 of no operator.
func Apply(op api.Op, a, b uint64) uint64 {
	switch op {
	case api.Add:
		return a + b
	case api.Sub:
		return a - b
	case api.Mul:
		return a * b
	case api.And:
		return a & b
	case api.Or:
		return a | b
	case api.Xor:
		return a ^ b
	case api.Shl:
		return a << (b % 64)
	case api.Shr:
		return a >> (b % 64)
	case api.Equal:
		return 1 - some(a^b)
	case api.Less:
		return less(a, b)
	}
	return 0
}

// Pick is one of two words, by a third one: without a branch, as the third one may be secret.
func Pick(c, a, b uint64) uint64 {
	mask := -some(c)
	return a&mask | b&^mask
}

// Turns tells whether an operator does not care which word stands first.
func Turns(op api.Op) bool {
	switch op {
	case api.Add, api.Mul, api.And, api.Or, api.Xor, api.Equal:
		return true
	}
	return false
}

// Signs are the operators' signs, by their numbers.
func Signs() []string {
	return []string{"+", "-", "*", "&", "|", "^", "<<", ">>", "==", "<"}
}

// Tight is how tight an operator binds: from 1 on; 0: there is none.
func Tight(op api.Op) int {
	switch op {
	case api.Mul:
		return 7
	case api.Add, api.Sub:
		return 6
	case api.Shl, api.Shr:
		return 5
	case api.And:
		return 4
	case api.Equal, api.Less:
		return 3
	case api.Xor:
		return 2
	case api.Or:
		return 1
	}
	return 0
}

// some is 1 of any word but 0: such a word, or what it lacks to go round, has the top bit.
func some(a uint64) uint64 {
	return (a | -a) >> 63
}

// less is 1 if a is below b: just then the difference borrows.
func less(a, b uint64) uint64 {
	_, borrow := bits.Sub64(a, b, 0)
	return borrow
}
