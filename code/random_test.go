package code

import (
	"math/rand/v2"
	"slices"
	"testing"

	"tautochrone/api"
)

// anyCode is a code mostly of things that there are, by codes of which there are n.
func anyCode(r *rand.Rand, n int) api.Code {
	number := func(most int) int {
		switch r.IntN(30) {
		case 0:
			return -1 - r.IntN(3)
		case 1:
			return most + r.IntN(3)
		case 2:
			return int(r.Uint64())>>1 ^ -r.IntN(2)
		}
		return r.IntN(most)
	}
	return api.Code{
		Op: api.CodeOp(number(14)), Do: api.Op(number(10)),
		To: number(65536), A: number(65536), B: number(65536), C: number(65536),
		Value: r.Uint64() >> r.IntN(64), Target: number(n),
	}
}

func TestRandomCodes(t *testing.T) {
	r := rand.New(rand.NewPCG(12, 1))
	for range 200000 {
		n := 1 + r.IntN(20)
		c, at := anyCode(r, n), r.IntN(n+3)-1
		to, ok := Defines(c)
		there, on := Jumps(c)
		if ok != says(c, "T") || ok && to != c.To || !ok && to != 0 || there != says(c, "@") || on == says(c, ".") {
			t.Fatalf("%+v: %d, %t, %t, %t", c, to, ok, there, on)
		}
		if l := Uses(c); !slices.Equal(l, taken(c)) {
			t.Fatalf("Uses(%+v) = %v", c, l)
		}
		if l := Next(c, at, n); !slices.Equal(l, plainNext(c, at, n)) {
			t.Fatalf("Next(%+v, %d, %d) = %v", c, at, n, l)
		}
		if s := Text(c); s != plainText(c) {
			t.Fatalf("Text(%+v) = %q, not %q", c, s, plainText(c))
		}
	}
}

func TestRandomLists(t *testing.T) {
	r := rand.New(rand.NewPCG(12, 2))
	good := 0
	for range 100000 {
		cs := make([]api.Code, r.IntN(8))
		for i := range cs {
			cs[i] = anyCode(r, len(cs))
		}
		if len(cs) > 0 && r.IntN(4) > 0 {
			cs[len(cs)-1].Op = []api.CodeOp{api.Halt, api.Jump}[r.IntN(2)]
		}
		was := slices.Clone(cs)
		if Good(cs) != plainGood(cs) || Values(cs) != plainValues(cs) {
			t.Fatalf("%+v: %t, %d", cs, Good(cs), Values(cs))
		}
		if Good(cs) {
			good++
		}
		if !slices.Equal(cs, was) {
			t.Fatalf("%+v became %+v", was, cs)
		}
	}
	if good < 10000 || good > 90000 {
		t.Errorf("%d of 100000 are good", good)
	}
}

// Of good codes all places that may come behind one are among them, and none is left without one but where it halts.
func TestGoodGoOn(t *testing.T) {
	r := rand.New(rand.NewPCG(12, 3))
	for range 100000 {
		cs := make([]api.Code, 1+r.IntN(8))
		for i := range cs {
			cs[i] = anyCode(r, len(cs))
		}
		if !Good(cs) {
			continue
		}
		for at, c := range cs {
			next := Next(c, at, len(cs))
			if (len(next) == 0) != (c.Op == api.Halt) {
				t.Fatalf("%+v at %d: %v", cs, at, next)
			}
			for _, to := range next {
				if to < 0 || to >= len(cs) {
					t.Fatalf("%+v at %d: %v", cs, at, next)
				}
			}
		}
	}
}
