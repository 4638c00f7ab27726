package code

import (
	"math"
	"slices"
	"testing"

	"tautochrone/api"
)

// ops are all that a code may do, in their order.
func ops() []api.CodeOp {
	return []api.CodeOp{api.Set, api.Move, api.Do, api.Choose, api.Read, api.Write, api.Jump, api.Zero, api.Lock, api.Unlock, api.Inc, api.Mend, api.Tell, api.Halt}
}

// strangers are numbers that nothing has that a code may do.
func strangers() []api.CodeOp {
	return []api.CodeOp{-1, -2, -14, math.MinInt64, math.MinInt64 + 1, 14, 15, 28, 256, 1 << 32, 1<<32 + 1, math.MaxInt64}
}

// full is a code of which each part is another one, none of them 0.
func full(op api.CodeOp) api.Code {
	return api.Code{Op: op, Do: api.Xor, To: 11, A: 22, B: 33, C: 44, Value: 55, Target: 66}
}

func TestDefines(t *testing.T) {
	sets := []api.CodeOp{api.Set, api.Move, api.Do, api.Choose, api.Read}
	for _, op := range append(ops(), strangers()...) {
		for _, to := range []int{0, 1, 7, 65535, 65536, -1, -2, math.MaxInt64, math.MinInt64} {
			c := full(op)
			c.To = to
			v, ok := Defines(c)
			want := 0
			if slices.Contains(sets, op) {
				want = to
			}
			if v != want || ok != slices.Contains(sets, op) {
				t.Errorf("Defines(%+v) = %d, %t", c, v, ok)
			}
		}
	}
}

func TestUses(t *testing.T) {
	for _, x := range []struct {
		op   api.CodeOp
		want []int
	}{
		{api.Set, nil}, {api.Move, []int{22}}, {api.Do, []int{22, 33}}, {api.Choose, []int{22, 33, 44}},
		{api.Read, []int{22}}, {api.Write, []int{22, 33}}, {api.Jump, nil}, {api.Zero, []int{22}}, {api.Lock, nil},
		{api.Unlock, nil}, {api.Inc, []int{22}}, {api.Mend, nil}, {api.Tell, []int{22}}, {api.Halt, nil},
		{-1, nil}, {14, nil}, {math.MinInt64, nil}, {math.MaxInt64, nil}, {1 << 32, nil},
	} {
		if l := Uses(full(x.op)); !slices.Equal(l, x.want) {
			t.Errorf("Uses of %d = %v, not %v", x.op, l, x.want)
		}
	}
}

func TestUsesEdges(t *testing.T) {
	for _, x := range []struct {
		c    api.Code
		want []int
	}{
		{api.Code{Op: api.Read, A: 0}, []int{0}}, {api.Code{Op: api.Read, A: -1}, nil}, {api.Code{Op: api.Read, A: -2}, nil}, {api.Code{Op: api.Read, A: math.MinInt64}, nil}, {api.Code{Op: api.Read, A: math.MaxInt64}, []int{math.MaxInt64}},
		{api.Code{Op: api.Write, A: 0, B: 3}, []int{0, 3}}, {api.Code{Op: api.Write, A: -1, B: 3}, []int{3}}, {api.Code{Op: api.Write, A: -2, B: 3}, []int{3}}, {api.Code{Op: api.Write, A: 2, B: -1}, []int{2, -1}}, {api.Code{Op: api.Write, A: -1, B: -5}, []int{-5}},
		{api.Code{Op: api.Move, A: -1}, []int{-1}}, {api.Code{Op: api.Zero, A: -1}, []int{-1}}, {api.Code{Op: api.Inc, A: -1}, []int{-1}}, {api.Code{Op: api.Tell, A: math.MinInt64}, []int{math.MinInt64}},
		{api.Code{Op: api.Do, A: -1, B: -2}, []int{-1, -2}}, {api.Code{Op: api.Do, A: 5, B: 5}, []int{5, 5}}, {api.Code{Op: api.Do, A: 9, B: 4}, []int{9, 4}},
		{api.Code{Op: api.Choose, A: -1, B: -2, C: -3}, []int{-1, -2, -3}}, {api.Code{Op: api.Choose, A: 6, B: 6, C: 6}, []int{6, 6, 6}}, {api.Code{Op: api.Choose, A: 9, B: 7, C: 8}, []int{9, 7, 8}},
		{api.Code{Op: api.Write, A: 4, B: 4}, []int{4, 4}}, {api.Code{Op: api.Do, Do: 99, A: 1, B: 2}, []int{1, 2}},
	} {
		if l := Uses(x.c); !slices.Equal(l, x.want) {
			t.Errorf("Uses(%+v) = %v, not %v", x.c, l, x.want)
		}
	}
}

func TestJumps(t *testing.T) {
	for _, op := range append(ops(), strangers()...) {
		wantThere := op == api.Jump || op == api.Zero
		wantOn := op != api.Jump && op != api.Halt
		for _, target := range []int{0, 3, -1, math.MaxInt64} {
			c := full(op)
			c.Target = target
			if there, on := Jumps(c); there != wantThere || on != wantOn {
				t.Errorf("Jumps(%+v) = %t, %t", c, there, on)
			}
		}
	}
}

func TestNext(t *testing.T) {
	to := func(op api.CodeOp, target int) api.Code { return api.Code{Op: op, Target: target} }
	for _, x := range []struct {
		c     api.Code
		at, n int
		want  []int
	}{
		{to(api.Set, 7), 0, 9, []int{1}}, {to(api.Set, 7), 7, 9, []int{8}}, {to(api.Set, 7), 8, 9, nil}, {to(api.Set, 7), 9, 9, nil}, {to(api.Set, 7), 50, 9, nil}, {to(api.Set, 0), 0, 1, nil}, {to(api.Set, 0), 0, 0, nil}, {to(api.Set, 0), 0, -1, nil},
		{to(api.Halt, 3), 0, 9, nil}, {to(api.Halt, 1), 0, 2, nil},
		{to(api.Jump, 3), 0, 9, []int{3}}, {to(api.Jump, 0), 5, 9, []int{0}}, {to(api.Jump, 8), 0, 9, []int{8}}, {to(api.Jump, 9), 0, 9, nil}, {to(api.Jump, -1), 0, 9, nil}, {to(api.Jump, 5), 5, 9, []int{5}}, {to(api.Jump, 2), 100, 9, []int{2}}, {to(api.Jump, 0), 0, 0, nil}, {to(api.Jump, math.MinInt64), 0, 9, nil}, {to(api.Jump, math.MaxInt64), 0, 9, nil},
		{to(api.Zero, 1), 4, 9, []int{1, 5}}, {to(api.Zero, 7), 4, 9, []int{5, 7}}, {to(api.Zero, 5), 4, 9, []int{5}}, {to(api.Zero, 4), 4, 9, []int{4, 5}}, {to(api.Zero, 0), 4, 9, []int{0, 5}}, {to(api.Zero, 8), 4, 9, []int{5, 8}}, {to(api.Zero, 9), 4, 9, []int{5}}, {to(api.Zero, -1), 4, 9, []int{5}}, {to(api.Zero, 1), 8, 9, []int{1}}, {to(api.Zero, 9), 8, 9, nil}, {to(api.Zero, 1), 9, 9, []int{1}}, {to(api.Zero, 0), 0, 1, []int{0}}, {to(api.Zero, 0), 0, 0, nil}, {to(api.Zero, 0), 0, -4, nil},
		{to(14, 3), 2, 9, []int{3}}, {to(14, 3), 8, 9, nil}, {to(-1, 7), 2, 9, []int{3}},
	} {
		if l := Next(x.c, x.at, x.n); !slices.Equal(l, x.want) {
			t.Errorf("Next(%+v, %d, %d) = %v, not %v", x.c, x.at, x.n, l, x.want)
		}
	}
}

// Of the place behind no more is asked than that it is below n: it is the Target alone that is asked to be from 0 on.
func TestNextFarOff(t *testing.T) {
	mend := api.Code{Op: api.Mend}
	for _, x := range []struct {
		c     api.Code
		at, n int
		want  []int
	}{
		{mend, -1, 9, []int{0}}, {mend, -1, 0, nil}, {mend, -5, 9, []int{-4}}, {mend, -5, -3, []int{-4}}, {mend, -5, -4, nil}, {mend, math.MinInt64, 9, []int{math.MinInt64 + 1}},
		{mend, math.MaxInt64, 9, nil}, {mend, math.MaxInt64, math.MaxInt64, nil}, {mend, math.MaxInt64 - 1, math.MaxInt64, nil}, {mend, math.MaxInt64 - 2, math.MaxInt64, []int{math.MaxInt64 - 1}}, {mend, 0, math.MinInt64, nil}, {mend, math.MaxInt64, math.MinInt64, nil}, {mend, math.MinInt64, math.MinInt64, nil},
		{api.Code{Op: api.Zero, Target: 2}, -5, 9, []int{-4, 2}}, {api.Code{Op: api.Zero, Target: -4}, -5, 9, []int{-4}}, {api.Code{Op: api.Zero, Target: -2}, -5, 9, []int{-4}}, {api.Code{Op: api.Zero, Target: 0}, -1, 9, []int{0}}, {api.Code{Op: api.Zero, Target: 2}, math.MaxInt64, 9, []int{2}}, {api.Code{Op: api.Zero, Target: math.MaxInt64 - 1}, math.MaxInt64 - 2, math.MaxInt64, []int{math.MaxInt64 - 1}},
	} {
		if l := Next(x.c, x.at, x.n); !slices.Equal(l, x.want) {
			t.Errorf("Next(%+v, %d, %d) = %v, not %v", x.c, x.at, x.n, l, x.want)
		}
	}
}

// What is answered is nobody else's: to write to it changes no other answer.
func TestAnswersAreNew(t *testing.T) {
	for _, op := range ops() {
		c := full(op)
		uses, next := Uses(c), Next(c, 3, 99)
		wantUses, wantNext := slices.Clone(uses), slices.Clone(next)
		for _, l := range [][]int{uses, next, Uses(c), Next(c, 3, 99)} {
			for i := range l {
				l[i] = -7
			}
			_ = append(l, -8)
		}
		if c != full(op) || !slices.Equal(Uses(c), wantUses) || !slices.Equal(Next(c, 3, 99), wantNext) {
			t.Errorf("%+v, %v, %v", c, Uses(c), Next(c, 3, 99))
		}
	}
}
