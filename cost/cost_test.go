package cost

import (
	"math"
	"slices"
	"testing"

	"tautochrone/api"
	"tautochrone/parse"
)

const above = api.MaxCost + 1

// exprKinds are all kinds of expressions, and some that are none.
func exprKinds() []api.ExprKind {
	return []api.ExprKind{api.Literal, api.Name, api.Cell, api.Binary, api.Not, api.Pick, -1, 6, math.MaxInt64, math.MinInt64}
}

// stmtKinds are all kinds of statements but Loop, and some that are none.
func stmtKinds() []api.StmtKind {
	return []api.StmtKind{api.Local, api.Assign, api.Store, api.If, api.Take, api.Give, api.Bump, api.Fence, api.Output, -1, 10, math.MaxInt64, math.MinInt64}
}

// parts is an expression of so many parts, all side by side but itself.
func parts(n int) api.Expr {
	return api.Expr{Kind: api.Pick, Kids: make([]api.Expr, n-1)}
}

// fences are statements that cost four each.
func fences(n int) []api.Stmt {
	return slices.Repeat([]api.Stmt{{Kind: api.Fence}}, n)
}

// worth is a statement of just such a cost.
func worth(n int) api.Stmt {
	if n < 5 {
		return api.Stmt{Kind: api.Fence}
	}
	return api.Stmt{Kind: api.Output, Exprs: []api.Expr{parts(n - 4)}}
}

func loop(count int, body ...api.Stmt) api.Stmt {
	return api.Stmt{Kind: api.Loop, Name: "i", Count: count, Body: body}
}

func exprCosts(t *testing.T, e api.Expr, want int) {
	t.Helper()
	if n := Expr(e); n != want {
		t.Errorf("Expr of kind %d with %d kids: %d, not %d", e.Kind, len(e.Kids), n, want)
	}
}

func stmtCosts(t *testing.T, s api.Stmt, want int) {
	t.Helper()
	if n := Stmt(s); n != want {
		t.Errorf("Stmt of kind %d, Count %d, with %d, %d and %d parts: %d, not %d", s.Kind, s.Count, len(s.Exprs), len(s.Body), len(s.Else), n, want)
	}
	if n := Block([]api.Stmt{s}); n != want {
		t.Errorf("Block of kind %d, Count %d: %d, not %d", s.Kind, s.Count, n, want)
	}
}

func blockCosts(t *testing.T, ss []api.Stmt, want int) {
	t.Helper()
	if n := Block(ss); n != want {
		t.Errorf("Block of %d: %d, not %d", len(ss), n, want)
	}
}

// block is a thread of a text.
func block(t *testing.T, text string) []api.Stmt {
	t.Helper()
	p, err := parse.Program("lock l; public a; public b; public p[8]; thread { " + text + " }")
	if err != nil {
		t.Fatal(text, err)
	}
	return p.Threads[0]
}

func TestExprTexts(t *testing.T) {
	for text, want := range map[string]int{
		"1": 1, "a": 1, "p[1]": 2, "~a": 2, "a + 1": 3, "a == b": 3, "pick(a, 1, 2)": 4, "(((a)))": 1,
		"p[p[p[1]]]": 4, "~~~~a": 5, "a + 1 + b + 2": 7, "a * (b + p[~a])": 7, "pick(pick(a, b, 1), (a < 2), p[1 + 1])": 12,
		"18446744073709551615": 1,
	} {
		ss := block(t, "output "+text+";")
		exprCosts(t, ss[0].Exprs[0], want)
		blockCosts(t, ss, want+4)
	}
}

// An expression's Kind says nothing of its cost, and nothing but its kids does.
func TestExprKinds(t *testing.T) {
	for _, kind := range exprKinds() {
		one := api.Expr{Kind: kind, Op: api.Shr, Name: "a", Value: math.MaxUint64, At: 7}
		exprCosts(t, one, 1)
		exprCosts(t, api.Expr{Kind: kind, Kids: []api.Expr{}}, 1)
		for n := 1; n < 6; n++ {
			e := api.Expr{Kind: kind, Kids: slices.Repeat([]api.Expr{one}, n)}
			exprCosts(t, e, 1+n)
			exprCosts(t, api.Expr{Kind: kind, Kids: slices.Repeat([]api.Expr{e}, n)}, 1+n*(1+n))
			exprCosts(t, api.Expr{Kind: kind, Kids: []api.Expr{one, e, parts(10), e}}, 2*n+14)
		}
	}
}

func TestExprAtMost(t *testing.T) {
	for n, want := range map[int]int{api.MaxCost - 2: api.MaxCost - 1, api.MaxCost - 1: api.MaxCost, api.MaxCost: above, api.MaxCost + 1: above, api.MaxCost + 2: above} {
		exprCosts(t, parts(n+1), want)
		exprCosts(t, api.Expr{Kids: []api.Expr{parts(n)}}, want)
		exprCosts(t, api.Expr{Kids: []api.Expr{parts(7), parts(n - 17), parts(10)}}, want)
	}
	big := parts(above)
	for _, kind := range exprKinds() {
		exprCosts(t, api.Expr{Kind: kind, Kids: []api.Expr{big}}, above)
		exprCosts(t, api.Expr{Kind: kind, Kids: []api.Expr{big, {}, {}}}, above)
		exprCosts(t, api.Expr{Kind: kind, Kids: []api.Expr{{}, {}, big}}, above)
		exprCosts(t, api.Expr{Kind: kind, Kids: slices.Repeat([]api.Expr{big}, 300)}, above)
	}
}

func TestStmtTexts(t *testing.T) {
	for text, want := range map[string]int{
		"":               0,
		"a = 1;":         5,
		"a = a + 1;":     7,
		"local x = a;":   5,
		"local x = ~a;":  6,
		"p[1] = 2;":      6,
		"p[a + 1] = ~b;": 9,
		"take l;":        4,
		"give l;":        4,
		"add a 1;":       5,
		"add a b + 2;":   7,
		"fence;":         4,
		"output a;":      5,
		"output p[a];":   6,

		"if (a) { }":                                  5,
		"if (a) { a = 1; }":                           10,
		"if (a) { } else { fence; }":                  9,
		"if (a) { a = 1; } else { fence; }":           14,
		"if (a + 1) { fence; fence; } else { }":       15,
		"if (a) { if (b) { fence; } } else { }":       14,
		"if (a) { } else { if (b) { } else { } }":     10,
		"if (a) { loop i 2 { fence; } } else { }":     25,
		"loop i 1 { }":                                8,
		"loop i 256 { }":                              4 + 256*4,
		"loop i 1 { fence; }":                         12,
		"loop i 10 { a = 1; }":                        94,
		"loop i 256 { a = 1; }":                       4 + 256*9,
		"loop i 3 { if (a) { fence; } }":              4 + 3*13,
		"loop i 3 { loop j 5 { fence; } }":            4 + 3*(4+4+5*8),
		"loop i 3 { fence; } loop j 5 { fence; }":     4 + 3*8 + 4 + 5*8,
		"take l; a = 1; give l; output a + b; fence;": 4 + 5 + 4 + 7 + 4,
	} {
		blockCosts(t, block(t, text), want)
	}
}

// A statement's Kind says nothing of its cost, if it is no Loop, nor does its Count.
func TestStmtKinds(t *testing.T) {
	e := parts(3)
	for _, kind := range stmtKinds() {
		for _, count := range []int{0, 1, 2, 256, -1, math.MaxInt64, math.MinInt64} {
			plain := api.Stmt{Kind: kind, Name: "a", Count: count, At: 9}
			stmtCosts(t, plain, 4)
			for n := range 6 {
				s := plain
				s.Exprs = slices.Repeat([]api.Expr{e}, n)
				stmtCosts(t, s, 4+3*n)
				s.Body = fences(n)
				stmtCosts(t, s, 4+7*n)
				s.Else = fences(2)
				stmtCosts(t, s, 12+7*n)
				s.Body = nil
				stmtCosts(t, s, 12+3*n)
				s.Exprs = nil
				s.Body = []api.Stmt{s, plain, loop(2, s)}
				stmtCosts(t, s, 4+12+4+(4+2*(4+12))+8)
			}
		}
	}
}

func TestLoopCounts(t *testing.T) {
	for count, rounds := range map[int]int{
		0: 0, 1: 1, 2: 2, 255: 255, api.MaxLoop: 256, api.MaxLoop + 1: 256, 1000: 256, 1 << 32: 256, 1<<32 + 1: 256, math.MaxInt64 - 1: 256, math.MaxInt64: 256,
		-1: 0, -2: 0, -256: 0, -1 << 32: 0, 1 - 1<<32: 0, math.MinInt64: 0, math.MinInt64 + 1: 0,
	} {
		s := loop(count)
		stmtCosts(t, s, 4+4*rounds)
		s.Else = fences(1)
		stmtCosts(t, s, 4+8*rounds)
		s.Exprs = []api.Expr{parts(1), parts(2)}
		stmtCosts(t, s, 7+8*rounds)
		s.Body = fences(2)
		stmtCosts(t, s, 7+16*rounds)
		s.Else = nil
		stmtCosts(t, s, 7+12*rounds)
		s.Body = []api.Stmt{worth(5), loop(3, worth(6)), worth(4)}
		stmtCosts(t, s, 7+(4+5+(4+3*10)+4)*rounds)
		s.Body = []api.Stmt{loop(count, worth(5))}
		stmtCosts(t, s, 7+(8+9*rounds)*rounds)
	}
}

// Loops whose cost is near MaxCost.
func TestLoopAtMost(t *testing.T) {
	for _, x := range []struct {
		s    api.Stmt
		want int
	}{
		{loop(256, worth(4091)), api.MaxCost - 252},
		{loop(256, worth(4092)), above},
		{loop(1, worth(api.MaxCost-8)), api.MaxCost},
		{loop(1, worth(api.MaxCost-7)), above},
		{loop(1, worth(api.MaxCost-9)), api.MaxCost - 1},
		{loop(2, worth(api.MaxCost/2-6)), api.MaxCost},
		{loop(2, worth(api.MaxCost/2-5)), above},
		{loop(4, worth(api.MaxCost/4-5)), api.MaxCost},
		{loop(4, worth(api.MaxCost/4-4)), above},
		{loop(2, loop(2, worth(api.MaxCost/4-9))), api.MaxCost},
		{loop(2, loop(2, worth(api.MaxCost/4-8))), above},
		{loop(2, loop(2, worth(api.MaxCost/4-11)), worth(4)), api.MaxCost},
		{loop(2, loop(2, worth(api.MaxCost/4-11)), worth(5)), above},
		{loop(256, loop(256)), 4 + 256*(8+256*4)},
		{loop(256, loop(256, fences(2)...)), 4 + 256*(8+256*12)},
		{loop(256, loop(256, fences(3)...)), above},
		{loop(256, loop(256, loop(256))), above},
		{loop(256, loop(256, loop(256, loop(256, loop(256, loop(256, loop(256, loop(256))))))), worth(4)), above},
		{loop(0, loop(256, loop(256, loop(256)))), 4},
		{loop(-1, loop(256, loop(256, loop(256)))), 4},
		{loop(256, loop(0, loop(256, loop(256)))), 4 + 256*8},
		{loop(math.MaxInt64, loop(math.MaxInt64, fences(1)...)), 4 + 256*(8+256*8)},
		{loop(math.MaxInt64, loop(math.MaxInt64, loop(math.MaxInt64))), above},
		{loop(256, loop(256, loop(math.MinInt64))), 4 + 256*(8+256*8)},
	} {
		stmtCosts(t, x.s, x.want)
		x.s.Body, x.s.Else = x.s.Else, x.s.Body
		stmtCosts(t, x.s, x.want)
	}
}

// One more of anything makes just MaxCost too much.
func TestLoopOneMore(t *testing.T) {
	full := loop(256, loop(256, fences(2)...))
	rest := api.MaxCost - Stmt(full)
	blockCosts(t, []api.Stmt{full, worth(rest)}, api.MaxCost)
	blockCosts(t, []api.Stmt{worth(rest), full}, api.MaxCost)
	blockCosts(t, []api.Stmt{full, worth(rest + 1)}, above)
	blockCosts(t, []api.Stmt{worth(rest + 1), full}, above)
	blockCosts(t, []api.Stmt{full, worth(rest), worth(4)}, above)
	s := full
	s.Exprs = []api.Expr{parts(rest)}
	stmtCosts(t, s, api.MaxCost)
	s.Exprs = append(s.Exprs, parts(1))
	stmtCosts(t, s, above)
	s.Exprs = []api.Expr{parts(rest + 1)}
	stmtCosts(t, s, above)
	both := api.Stmt{Kind: api.If, Body: []api.Stmt{full}, Else: []api.Stmt{worth(rest - 4)}}
	stmtCosts(t, both, api.MaxCost)
	both.Else = []api.Stmt{worth(rest - 3)}
	stmtCosts(t, both, above)
	both.Body, both.Else = both.Else, both.Body
	stmtCosts(t, both, above)
}

// Loops in one another so deep that the product goes round an int, to 0 too, and further.
func TestLoopDeep(t *testing.T) {
	for _, count := range []int{2, 4, 16, 128, 255, 256, 1000} {
		s := loop(count)
		for range 300 {
			s = loop(count, s)
			if n := Stmt(s); n > above || n < 4 {
				t.Fatal(count, n)
			}
		}
		stmtCosts(t, s, above)
		stmtCosts(t, loop(0, s), 4)
		stmtCosts(t, loop(1, s), above)
	}
	s := loop(1)
	for range 1<<15 - 1 {
		s = loop(1, s)
	}
	stmtCosts(t, s, 8<<15)
}

func TestBlockSums(t *testing.T) {
	blockCosts(t, nil, 0)
	blockCosts(t, []api.Stmt{}, 0)
	for _, n := range []int{1, 2, 3, 10, 1000, api.MaxCost/4 - 1, api.MaxCost / 4, api.MaxCost/4 + 1, api.MaxCost / 2} {
		blockCosts(t, fences(n), min(4*n, above))
		blockCosts(t, append(fences(n-1), worth(5)), min(4*n+1, above))
		blockCosts(t, append([]api.Stmt{worth(7)}, fences(n-1)...), min(4*n+3, above))
	}
	blockCosts(t, []api.Stmt{worth(4), worth(5), worth(6), worth(7)}, 22)
	blockCosts(t, []api.Stmt{worth(api.MaxCost)}, api.MaxCost)
	blockCosts(t, []api.Stmt{worth(api.MaxCost + 1)}, above)
	blockCosts(t, []api.Stmt{worth(api.MaxCost - 4), worth(4)}, api.MaxCost)
	blockCosts(t, []api.Stmt{worth(api.MaxCost - 4), worth(5)}, above)
	blockCosts(t, []api.Stmt{worth(5), worth(api.MaxCost - 4)}, above)
	blockCosts(t, []api.Stmt{worth(api.MaxCost - 3), worth(4)}, above)
	blockCosts(t, []api.Stmt{worth(1000), worth(api.MaxCost - 2000), worth(1000)}, api.MaxCost)
	blockCosts(t, []api.Stmt{worth(1000), worth(api.MaxCost - 2000), worth(1001)}, above)
}

// With a part that is too much alone all of it is too much, and no more than that.
func TestPartAbove(t *testing.T) {
	wide, rounds := worth(above), loop(256, loop(256, loop(256)))
	for _, kind := range append(stmtKinds(), api.Loop) {
		for _, s := range []api.Stmt{
			{Body: []api.Stmt{rounds}}, {Else: []api.Stmt{rounds}}, {Body: []api.Stmt{rounds}, Else: []api.Stmt{rounds}},
			{Body: fences(3), Else: []api.Stmt{rounds}}, {Body: []api.Stmt{rounds, rounds}, Else: fences(3), Exprs: make([]api.Expr, 9)},
			{Exprs: wide.Exprs}, {Exprs: []api.Expr{{}, wide.Exprs[0], wide.Exprs[0]}, Body: fences(2), Else: []api.Stmt{rounds}},
		} {
			for _, s.Count = range []int{1, 256} {
				s.Kind = kind
				stmtCosts(t, s, above)
			}
		}
	}
	for _, big := range []api.Stmt{wide, rounds, loop(2, worth(api.MaxCost)), loop(1, wide), {Kind: api.If, Body: []api.Stmt{wide}}, {Kind: api.If, Else: []api.Stmt{wide}}} {
		stmtCosts(t, big, above)
		blockCosts(t, []api.Stmt{big, worth(4), worth(9)}, above)
		blockCosts(t, []api.Stmt{worth(4), big, worth(9)}, above)
		blockCosts(t, []api.Stmt{worth(4), worth(9), big}, above)
		blockCosts(t, slices.Repeat([]api.Stmt{big}, 1000), above)
	}
}

// What expressions add may be just what is left.
func TestExprsAtMost(t *testing.T) {
	one, just, more := parts(1), parts(api.MaxCost-4), parts(api.MaxCost-3)
	for _, kind := range []api.StmtKind{api.Assign, api.If, api.Loop, api.Output} {
		stmtCosts(t, api.Stmt{Kind: kind, Exprs: []api.Expr{just}}, api.MaxCost)
		stmtCosts(t, api.Stmt{Kind: kind, Exprs: []api.Expr{more}}, above)
		stmtCosts(t, api.Stmt{Kind: kind, Exprs: []api.Expr{one, just}}, above)
		stmtCosts(t, api.Stmt{Kind: kind, Exprs: []api.Expr{just}, Count: 1, Body: fences(1)}, above)
	}
}

// Parts that are shared make few things to a tree that nobody could go through.
func TestSharedParts(t *testing.T) {
	e, s, never := api.Expr{}, api.Stmt{Kind: api.Fence}, loop(0)
	for i := range 200 {
		e = api.Expr{Kind: api.Binary, Kids: []api.Expr{e, e}}
		s = api.Stmt{Kind: []api.StmtKind{api.If, api.Loop}[i%2], Count: 1, Body: []api.Stmt{s}, Else: []api.Stmt{s}}
		never = loop(-i, never, never)
		never.Else = never.Body
	}
	exprCosts(t, e, above)
	stmtCosts(t, s, above)
	stmtCosts(t, never, 4)
	stmtCosts(t, api.Stmt{Kind: api.If, Exprs: []api.Expr{e, e}, Body: []api.Stmt{s, s}, Else: []api.Stmt{s}}, above)
}
