package code

import (
	"math"
	"slices"
	"testing"

	"tautochrone/api"
)

var halt = api.Code{Op: api.Halt}

func TestGoodOfOne(t *testing.T) {
	for _, op := range append(ops(), strangers()...) {
		alone := []api.Code{{Op: op}}
		if Good(alone) != (op == api.Halt || op == api.Jump) {
			t.Errorf("%d alone", op)
		}
		ahead := []api.Code{{Op: op}, halt}
		if Good(ahead) != slices.Contains(ops(), op) {
			t.Errorf("%d ahead of halt", op)
		}
		behind := []api.Code{halt, {Op: op}}
		if Good(behind) != (op == api.Halt || op == api.Jump) {
			t.Errorf("%d behind halt", op)
		}
	}
}

func TestGoodLengths(t *testing.T) {
	for _, x := range []struct {
		n    int
		want bool
	}{{0, false}, {1, true}, {2, true}, {4095, true}, {4096, true}, {4097, false}, {8192, false}, {1 << 18, false}} {
		cs := make([]api.Code, x.n)
		for i := range cs {
			cs[i] = halt
		}
		if Good(cs) != x.want {
			t.Error(x.n)
		}
	}
	if Good(nil) || Good([]api.Code{}) {
		t.Error("good of nothing")
	}
}

func TestGoodOperators(t *testing.T) {
	for _, x := range []struct {
		op   api.Op
		want bool
	}{{api.Add, true}, {api.Sub, true}, {api.Mul, true}, {api.And, true}, {api.Or, true}, {api.Xor, true}, {api.Shl, true}, {api.Shr, true}, {api.Equal, true}, {api.Less, true}, {10, false}, {11, false}, {-1, false}, {64, false}, {1 << 32, false}, {math.MinInt64, false}, {math.MaxInt64, false}} {
		if Good([]api.Code{{Op: api.Do, Do: x.op}, halt}) != x.want {
			t.Errorf("operator %d", x.op)
		}
		for _, op := range ops() {
			if op != api.Do && !Good([]api.Code{{Op: op, Do: x.op}, halt}) {
				t.Errorf("%d is held to operator %d", op, x.op)
			}
		}
	}
}

func TestGoodTargets(t *testing.T) {
	for _, target := range []int{math.MinInt64, -2, -1, 0, 1, 2, 3, 4, 4095, 4096, 65536, math.MaxInt64} {
		for _, op := range ops() {
			want := target >= 0 && target < 3 || op != api.Jump && op != api.Zero
			c := api.Code{Op: op, Target: target}
			if Good([]api.Code{c, halt, halt}) != want || Good([]api.Code{halt, c, halt}) != want {
				t.Errorf("%+v ahead of halt", c)
			}
			if (op == api.Jump || op == api.Halt) && Good([]api.Code{halt, halt, c}) != want {
				t.Errorf("%+v behind halt", c)
			}
		}
	}
}

// parts of a code that are values, and which codes set or take them.
var parts = []struct {
	name  string
	part  func(c *api.Code) *int
	codes []api.CodeOp
	or    []api.CodeOp // those in which what is below 0 is none
}{
	{"To", func(c *api.Code) *int { return &c.To }, []api.CodeOp{api.Set, api.Move, api.Do, api.Choose, api.Read}, nil},
	{"A", func(c *api.Code) *int { return &c.A }, []api.CodeOp{api.Move, api.Do, api.Choose, api.Read, api.Write, api.Zero, api.Inc, api.Tell}, []api.CodeOp{api.Read, api.Write}},
	{"B", func(c *api.Code) *int { return &c.B }, []api.CodeOp{api.Do, api.Choose, api.Write}, nil},
	{"C", func(c *api.Code) *int { return &c.C }, []api.CodeOp{api.Choose}, nil},
}

func TestGoodValues(t *testing.T) {
	for _, p := range parts {
		for _, v := range []int{math.MinInt64, -65536, -2, -1, 0, 1, 65534, 65535, 65536, 65537, 1 << 32, math.MaxInt64} {
			for _, op := range ops() {
				c := api.Code{Op: op}
				*p.part(&c) = v
				want := v >= 0 && v <= 65535 || !slices.Contains(p.codes, op) || v < 0 && slices.Contains(p.or, op)
				if Good([]api.Code{c, halt}) != want || Good([]api.Code{halt, halt, c, halt}) != want {
					t.Errorf("%s of %+v", p.name, c)
				}
			}
		}
	}
}

func TestValuesOfParts(t *testing.T) {
	for _, p := range parts {
		for _, v := range []int{math.MinInt64, -65536, -2, -1, 0, 1, 65534, 65535, 65536, 1 << 32, math.MaxInt64 - 1} {
			for _, op := range append(ops(), strangers()...) {
				c := api.Code{Op: op, To: -1, A: -1, B: -1, C: -1}
				*p.part(&c) = v
				want := 0
				if slices.Contains(p.codes, op) {
					want = max(v+1, 0)
				}
				if n := Values([]api.Code{c}); n != want {
					t.Errorf("Values of %+v = %d, not %d", c, n, want)
				}
			}
		}
	}
}

func TestValues(t *testing.T) {
	for _, x := range []struct {
		cs   []api.Code
		want int
	}{
		{nil, 0}, {[]api.Code{}, 0}, {[]api.Code{halt}, 0}, {[]api.Code{{Op: api.Lock, To: 9, A: 9, B: 9, C: 9, Value: 9, Target: 9}}, 0},
		{[]api.Code{{Op: api.Set}}, 1}, {[]api.Code{{Op: api.Tell, A: 4}, {Op: api.Set, To: 2}}, 5}, {[]api.Code{{Op: api.Set, To: 2}, {Op: api.Tell, A: 4}}, 5},
		{[]api.Code{{Op: api.Do, To: 1, A: 7, B: 2}}, 8}, {[]api.Code{{Op: api.Choose, To: 1, A: 2, B: 3, C: 9}}, 10}, {[]api.Code{{Op: api.Read, To: 3, A: -1}}, 4}, {[]api.Code{{Op: api.Read, To: -3, A: -1}}, 0},
		{[]api.Code{{Op: api.Set, To: -1}, {Op: api.Tell, A: -9}}, 0}, {[]api.Code{{Op: api.Set, To: math.MinInt64}}, 0}, {[]api.Code{{Op: api.Set, To: -1}, {Op: api.Set, To: 0}}, 1},
		{[]api.Code{{Op: api.Set, To: math.MaxInt64}}, math.MaxInt64}, {[]api.Code{{Op: api.Tell, A: math.MaxInt64 - 1}}, math.MaxInt64},
	} {
		if n := Values(x.cs); n != x.want {
			t.Errorf("Values(%+v) = %d, not %d", x.cs, n, x.want)
		}
	}
}

// Of many codes the one that counts may stand anywhere.
func TestMany(t *testing.T) {
	for _, at := range []int{0, 1, 2048, 4094} {
		cs := make([]api.Code, 4096)
		for i := range cs {
			cs[i] = api.Code{Op: api.Do, Do: api.Less, To: i, A: 4095 - i, B: i / 2}
		}
		cs[4095] = api.Code{Op: api.Jump, Target: 4095}
		if !Good(cs) {
			t.Fatal("not good")
		}
		cs[at].B = 65535
		if !Good(cs) || Values(cs) != 65536 {
			t.Error(at, Values(cs))
		}
		cs[at].B = 65536
		if Good(cs) || Values(cs) != 65537 {
			t.Error(at, Values(cs))
		}
		cs[at] = api.Code{Op: 14}
		if Good(cs) {
			t.Error(at)
		}
	}
}

// What is handed in stays as it is.
func TestListsStay(t *testing.T) {
	var cs []api.Code
	for _, op := range append(ops(), strangers()...) {
		cs = append(cs, full(op))
	}
	was := slices.Clone(cs)
	Good(cs)
	Values(cs)
	if !slices.Equal(cs, was) {
		t.Error("changed")
	}
}
