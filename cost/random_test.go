package cost

import (
	"math"
	"math/big"
	"math/rand/v2"
	"testing"

	"tautochrone/api"
)

// The document's rules once more, in numbers without an end, of which what is too much is cut off at last.

func number(n int) *big.Int { return big.NewInt(int64(n)) }

func plainExpr(e api.Expr) *big.Int {
	n := number(1)
	for _, kid := range e.Kids {
		n.Add(n, plainExpr(kid))
	}
	return n
}

func plainBlock(ss []api.Stmt) *big.Int {
	n := number(0)
	for _, s := range ss {
		n.Add(n, plainStmt(s))
	}
	return n
}

func plainStmt(s api.Stmt) *big.Int {
	n := new(big.Int).Add(plainBlock(s.Body), plainBlock(s.Else))
	if s.Kind == api.Loop {
		n.Add(n, number(4))
		switch {
		case s.Count < 0:
			n.SetInt64(0)
		case s.Count > 256:
			n.Mul(n, number(256))
		default:
			n.Mul(n, number(s.Count))
		}
	}
	for _, e := range s.Exprs {
		n.Add(n, plainExpr(e))
	}
	return n.Add(n, number(4))
}

func cutOff(n *big.Int) int {
	if n.Cmp(number(1<<20)) > 0 {
		return 1<<20 + 1
	}
	return int(n.Int64())
}

func oneOf[T any](r *rand.Rand, from ...T) T {
	return from[r.IntN(len(from))]
}

func randomExpr(r *rand.Rand, deep int) api.Expr {
	e := api.Expr{Kind: oneOf(r, exprKinds()...), Value: r.Uint64(), At: r.IntN(100)}
	for range r.IntN(1 + min(deep, 4)) {
		e.Kids = append(e.Kids, randomExpr(r, deep-1))
	}
	return e
}

// randomStmt is mostly a Loop or an If, of Counts that bring many a cost near MaxCost.
func randomStmt(r *rand.Rand, deep int) api.Stmt {
	s := api.Stmt{Kind: oneOf(r, stmtKinds()...), Name: "a", At: r.IntN(1000)}
	if r.IntN(3) > 0 {
		s.Kind = oneOf(r, api.Loop, api.Loop, api.If)
	}
	s.Count = oneOf(r, 0, 1, 2, 3, 5, 10, 100, 255, 256, 257, r.IntN(300), r.Int(), -r.Int(), -1, math.MinInt64)
	for range r.IntN(4) {
		s.Exprs = append(s.Exprs, randomExpr(r, 3))
	}
	if deep > 0 {
		s.Body = randomBlock(r, deep-1)
	}
	if deep > 0 && r.IntN(3) == 0 {
		s.Else = randomBlock(r, deep-1)
	}
	return s
}

func randomBlock(r *rand.Rand, deep int) []api.Stmt {
	var ss []api.Stmt
	for range r.IntN(4) {
		ss = append(ss, randomStmt(r, deep))
	}
	return ss
}

func TestCostRandom(t *testing.T) {
	r := rand.New(rand.NewPCG(9, 1))
	small, wide, over := 0, 0, 0
	for range 8000 {
		e, ss := randomExpr(r, 5), randomBlock(r, 4)
		exprCosts(t, e, cutOff(plainExpr(e)))
		for _, s := range ss {
			stmtCosts(t, s, cutOff(plainStmt(s)))
		}
		n := cutOff(plainBlock(ss))
		blockCosts(t, ss, n)
		switch {
		case n < 1000:
			small++
		case n <= api.MaxCost:
			wide++
		default:
			over++
		}
	}
	if min(small, wide, over) < 500 {
		t.Error(small, wide, over)
	}
}

func TestCheckRandom(t *testing.T) {
	r := rand.New(rand.NewPCG(9, 2))
	places := map[int]int{}
	for range 5000 {
		p, at, which := api.Program{}, -1, -1
		for i := range r.IntN(6) {
			ss := randomBlock(r, 4)
			p.Threads = append(p.Threads, ss)
			if at < 0 && cutOff(plainBlock(ss)) > api.MaxCost {
				at, which = ss[0].At, i
			}
		}
		checkTells(t, p, at)
		places[which]++
	}
	for i := -1; i < 5; i++ {
		if places[i] < 20 {
			t.Error(i, places)
		}
	}
}
