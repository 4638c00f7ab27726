package word

import (
	"math"
	"math/big"
	"slices"
	"testing"

	"tautochrone/api"
)

const top = math.MaxUint64

// operators are all of them, in their order.
func operators() []api.Op {
	return []api.Op{api.Add, api.Sub, api.Mul, api.And, api.Or, api.Xor, api.Shl, api.Shr, api.Equal, api.Less}
}

// strangers are numbers that no operator has.
func strangers() []api.Op {
	return []api.Op{-1, -2, -64, math.MinInt64, math.MinInt64 + 1, 10, 11, 64, 256, 1 << 32, 1<<32 + 1, math.MaxInt64}
}

// edges are words at both ends, beside the powers of two, and some ordinary ones.
func edges() []uint64 {
	words := []uint64{0, top, 10, 12, 1000, 0x5555555555555555, 0xaaaaaaaaaaaaaaaa, 0x0123456789abcdef}
	for i := range 64 {
		p := uint64(1) << i
		words = append(words, p-1, p, p+1, -p)
	}
	return words
}

func TestApplyTable(t *testing.T) {
	for _, x := range []struct {
		op         api.Op
		a, b, want uint64
	}{
		{api.Add, 2, 3, 5}, {api.Add, top, 1, 0}, {api.Add, top, top, top - 1}, {api.Add, 1 << 63, 1 << 63, 0},
		{api.Sub, 5, 3, 2}, {api.Sub, 0, 1, top}, {api.Sub, 0, top, 1}, {api.Sub, top, top, 0},
		{api.Mul, 6, 7, 42}, {api.Mul, top, top, 1}, {api.Mul, 1 << 32, 1 << 32, 0}, {api.Mul, top, 2, top - 1},
		{api.And, 12, 10, 8}, {api.And, top, 0, 0}, {api.And, top, 1 << 63, 1 << 63},
		{api.Or, 12, 10, 14}, {api.Or, 0, top, top}, {api.Or, 0, 0, 0},
		{api.Xor, 12, 10, 6}, {api.Xor, top, top, 0}, {api.Xor, top, 1, top - 1},
		{api.Shl, 1, 0, 1}, {api.Shl, 1, 63, 1 << 63}, {api.Shl, 1, 64, 1}, {api.Shl, 1, 65, 2}, {api.Shl, 3, 63, 1 << 63}, {api.Shl, 1, top, 1 << 63}, {api.Shl, 5, 1 << 63, 5}, {api.Shl, 5, 1 << 32, 5},
		{api.Shr, 8, 0, 8}, {api.Shr, 1 << 63, 63, 1}, {api.Shr, 8, 64, 8}, {api.Shr, 8, 66, 2}, {api.Shr, top, 63, 1}, {api.Shr, top, top, 1}, {api.Shr, 5, 1 << 63, 5}, {api.Shr, 5, 1 << 32, 5},
		{api.Equal, 3, 3, 1}, {api.Equal, 3, 4, 0}, {api.Equal, 0, 0, 1}, {api.Equal, top, top, 1}, {api.Equal, 0, 1 << 63, 0}, {api.Equal, 0, top, 0},
		{api.Less, 2, 3, 1}, {api.Less, 3, 2, 0}, {api.Less, 3, 3, 0}, {api.Less, 0, top, 1}, {api.Less, top, 0, 0}, {api.Less, 1, 1 << 63, 1}, {api.Less, 1 << 63, 1, 0}, {api.Less, top, top, 0},
	} {
		if v := Apply(x.op, x.a, x.b); v != x.want {
			t.Errorf("Apply(%d, %d, %d) = %d, not %d", x.op, x.a, x.b, v, x.want)
		}
	}
}

// wide works an operator out by numbers without a bound, cut to 64 bits at the end.
func wide(op api.Op, a, b uint64) uint64 {
	x, y, z := new(big.Int).SetUint64(a), new(big.Int).SetUint64(b), new(big.Int)
	by := uint(new(big.Int).Mod(y, big.NewInt(64)).Uint64())
	switch op {
	case api.Add:
		z.Add(x, y)
	case api.Sub:
		z.Sub(x, y)
	case api.Mul:
		z.Mul(x, y)
	case api.And:
		z.And(x, y)
	case api.Or:
		z.Or(x, y)
	case api.Xor:
		z.Xor(x, y)
	case api.Shl:
		z.Lsh(x, by)
	case api.Shr:
		z.Rsh(x, by)
	case api.Equal:
		if x.Cmp(y) == 0 {
			z.SetInt64(1)
		}
	case api.Less:
		if x.Cmp(y) < 0 {
			z.SetInt64(1)
		}
	}
	return z.Mod(z, new(big.Int).Lsh(big.NewInt(1), 64)).Uint64()
}

func TestApplyEdges(t *testing.T) {
	for _, op := range operators() {
		for _, a := range edges() {
			for _, b := range edges() {
				if v, want := Apply(op, a, b), wide(op, a, b); v != want {
					t.Fatalf("Apply(%d, %d, %d) = %d, not %d", op, a, b, v, want)
				}
			}
		}
	}
}

func TestApplyNoOperator(t *testing.T) {
	for _, op := range strangers() {
		for _, a := range edges() {
			for _, b := range []uint64{0, 1, 2, 64, a, top} {
				if v := Apply(op, a, b); v != 0 {
					t.Fatalf("Apply(%d, %d, %d) = %d, not 0", op, a, b, v)
				}
			}
		}
	}
}

func TestPick(t *testing.T) {
	if v := Pick(8, 1, 2); v != 1 {
		t.Errorf("Pick(8, 1, 2) = %d, not 1", v)
	}
	words := []uint64{0, 1, 2, 1 << 32, 1 << 63, top - 1, top}
	for _, c := range edges() {
		for _, a := range words {
			for _, b := range words {
				want := b
				if c != 0 {
					want = a
				}
				if v := Pick(c, a, b); v != want {
					t.Fatalf("Pick(%d, %d, %d) = %d, not %d", c, a, b, v, want)
				}
			}
		}
	}
}

func TestTurns(t *testing.T) {
	turning := []api.Op{api.Add, api.Mul, api.And, api.Or, api.Xor, api.Equal}
	for _, op := range operators() {
		if v, want := Turns(op), slices.Contains(turning, op); v != want {
			t.Errorf("Turns(%d) = %t", op, v)
		}
	}
	for _, op := range strangers() {
		if Turns(op) {
			t.Errorf("Turns(%d) = true", op)
		}
	}
}

// An operator turns just if no two words tell its sides apart.
func TestTurnsByApply(t *testing.T) {
	for _, op := range operators() {
		same := true
		for _, a := range edges() {
			for _, b := range edges() {
				same = same && Apply(op, a, b) == Apply(op, b, a)
			}
		}
		if Turns(op) != same {
			t.Errorf("Turns(%d) = %t, by Apply %t", op, Turns(op), same)
		}
	}
}

func TestSigns(t *testing.T) {
	want := []string{"+", "-", "*", "&", "|", "^", "<<", ">>", "==", "<"}
	first := Signs()
	if !slices.Equal(first, want) {
		t.Fatalf("Signs() = %q", first)
	}
	clear(first)
	if again := Signs(); !slices.Equal(again, want) {
		t.Errorf("Signs() = %q, once an earlier answer was changed", again)
	}
}

func TestTight(t *testing.T) {
	want := []int{6, 6, 7, 4, 1, 2, 5, 5, 3, 3}
	for i, op := range operators() {
		if v := Tight(op); v != want[i] {
			t.Errorf("Tight(%d) = %d, not %d", op, v, want[i])
		}
	}
	for _, op := range strangers() {
		if v := Tight(op); v != 0 {
			t.Errorf("Tight(%d) = %d, not 0", op, v)
		}
	}
}
