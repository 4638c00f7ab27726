package live

import (
	"math/rand/v2"
	"slices"
	"testing"

	"tautochrone/api"
)

// anyCode is a code of few values, so that they are set and taken often.
func anyCode(r *rand.Rand, n, values int) api.Code {
	number := func(most int) int {
		switch r.IntN(40) {
		case 0:
			return -1 - r.IntN(2)
		case 1:
			return most + r.IntN(3)
		}
		return r.IntN(most)
	}
	return api.Code{Op: api.CodeOp(number(14)), To: number(values), A: number(values), B: number(values), C: number(values), Target: number(n)}
}

func anyCodes(r *rand.Rand, most, values int) []api.Code {
	n := 1 + r.IntN(most)
	cs := make([]api.Code, n)
	for at := range cs {
		cs[at] = anyCode(r, n, values)
	}
	return cs
}

func TestAtRandom(t *testing.T) {
	r := rand.New(rand.NewPCG(13, 1))
	for range 4000 {
		same(t, anyCodes(r, 12, 1+r.IntN(6)))
	}
	for range 20 {
		same(t, anyCodes(r, 60, 200))
	}
}

// Ways through codes of which most neither set nor take, so that they are long.
func TestSparseAtRandom(t *testing.T) {
	r := rand.New(rand.NewPCG(13, 2))
	for range 600 {
		cs := anyCodes(r, 40, 4)
		for at := range cs {
			switch r.IntN(5) {
			case 0, 1:
				cs[at].Op = api.Jump
			case 2:
				cs[at].Op = api.Zero
			case 3:
				cs[at].Op = api.Mend
			}
		}
		same(t, cs)
	}
}

func same(t *testing.T, cs []api.Code) {
	t.Helper()
	if l, want := Of(cs), plainOf(cs); !sameLists(l, want) {
		t.Fatalf("%+v: %v, not %v", cs, l, want)
	}
	if s, want := Spans(cs), plainSpans(cs); !slices.Equal(s, want) {
		t.Fatalf("%+v: %v, not %v", cs, s, want)
	}
}
