package flow

import (
	"math/rand/v2"
	"reflect"
	"slices"
	"testing"

	"tautochrone/api"
)

func decls() []api.Decl {
	return []api.Decl{
		{Name: "l", Lock: true}, {Name: "a"}, {Name: "k", Label: api.Secret}, {Name: "b", By: "l"}, {Name: "odd", Label: 7},
		{Name: "p", Size: 4}, {Name: "s", Label: api.Secret, Size: 4}, {Name: "one", Size: 1}, {Name: "odds", Label: -1, Size: 4}, {Name: "wide", Size: api.MaxSize},
	}
}

// randomStmt is a statement that is right more often than by chance alone, so that later ones are come to.
func randomStmt(r *rand.Rand, deep, place int) api.Stmt {
	s := api.Stmt{At: place*1000 + r.IntN(1000), Count: oneOf(r, 1, 2, 4, 5)}
	value := func() api.Expr { return randomValue(r, place) }
	cells := oneOf(r, oneOf(r, "a", "b"), oneOf(r, "k", "odd"), oneOf(r, "a", "k", "b", "odd"), oneOf(r, "x", "y"), oneOf(r, pool()...))
	n := r.IntN(20)
	switch {
	case deep > 0 && n < 5:
		s.Kind, s.Exprs = api.If, []api.Expr{value()}
		s.Body, s.Else = randomBlock(r, deep-1, place), randomBlock(r, deep-1, place)
	case deep > 0 && n < 8:
		s.Kind, s.Name, s.Body = api.Loop, oneOf(r, "i1", "i2", "i4", "i5", "x"), randomBlock(r, deep-1, place)
	case n < 11:
		s.Kind, s.Name, s.Exprs = api.Local, oneOf(r, "x", "y", "w", "hidden", "strange", "i4", oneOf(r, pool()...)), []api.Expr{value()}
	case n < 14:
		s.Kind, s.Name, s.Exprs = api.Assign, cells, []api.Expr{value()}
	case n < 15:
		s.Kind, s.Name, s.Exprs = api.Store, oneOf(r, "p", "s", "odds", oneOf(r, pool()...)), []api.Expr{oneOf(r, lit(3), at(s.At+1, binary(api.And, lit(3), value())), value()), value()}
	case n < 16:
		s.Kind, s.Name = oneOf(r, api.Take, api.Give), oneOf(r, "l", "l", "l", oneOf(r, pool()...))
	case n < 17:
		s.Kind, s.Name, s.Exprs = api.Bump, cells, []api.Expr{value()}
	case n < 18:
		s.Kind = api.Fence
	case n < 19:
		s.Kind, s.Exprs = api.Output, []api.Expr{value()}
	default:
		s.Kind, s.Name = api.StmtKind(r.IntN(12)), cells
		for range r.IntN(4) {
			s.Exprs = append(s.Exprs, value())
		}
	}
	return s
}

// randomValue is mostly an expression that is right wherever it stands; else it is any.
func randomValue(r *rand.Rand, place int) api.Expr {
	if r.IntN(4) == 0 {
		return randomExpr(r, oneOf(r, 0, 0, 1, 2), place)
	}
	public := oneOf(r, lit(r.Uint64N(6)), name("a"), name("b"), cell("p", lit(3)))
	secret := oneOf(r, name("k"), name("odd"), cell("s", binary(api.And, name("a"), lit(3))), cell("odds", lit(1)))
	return at(place*1000+r.IntN(1000), oneOf(r, public, public, public, secret, not(public), binary(api.Add, public, secret)))
}

func randomBlock(r *rand.Rand, deep, place int) []api.Stmt {
	var ss []api.Stmt
	for range r.IntN(4) {
		ss = append(ss, randomStmt(r, deep, place))
	}
	return ss
}

// Of programs at random Check tells what the plain rules tell.
func TestCheckRandom(t *testing.T) {
	r := rand.New(rand.NewPCG(7, 3))
	counts := map[api.Errno]int{}
	long := 0
	for i := range 60000 {
		p := api.Program{Decls: decls()}
		for range 1 + r.IntN(3) {
			p.Threads = append(p.Threads, randomBlock(r, 3, i))
		}
		want, place := plain(nil).check(p)
		err := Check(p)
		if want == 0 && err != nil || api.Number(err) != want || want != 0 && api.Place(err) != place {
			t.Fatalf("Check(%+v): %v, not %v at %d", p, err, want, place)
		}
		counts[want]++
		if want == 0 && statements(p.Threads...) > 5 {
			long++
		}
	}
	if counts[0] < 5000 || counts[api.ErrType] < 5000 || counts[api.ErrFlow] < 5000 || long < 300 {
		t.Error(counts, long)
	}
}

func statements(blocks ...[]api.Stmt) int {
	n := 0
	for _, ss := range blocks {
		for _, s := range ss {
			n += 1 + statements(s.Body, s.Else)
		}
	}
	return n
}

// A program is not another one behind Check, and what is told of it does not change.
func TestCheckLeavesAll(t *testing.T) {
	texts := []string{"local x = 1; if (x) { s[1] = k; } else { loop i 4 { s[i] = p[i & x]; } } output x;", "local x = 1; loop i 4 { s[i] = 1; p[i + 1] = 1; }", "if (k) { s[a & 3] = 1; a = 1; }"}
	for _, text := range texts {
		p, was := program(t, head+"thread { "+text+" }"), program(t, head+"thread { "+text+" }")
		first := Check(p)
		for range 3 {
			if err := Check(p); !reflect.DeepEqual(err, first) {
				t.Errorf("%q: %v, then %v", text, first, err)
			}
		}
		if !reflect.DeepEqual(p, was) {
			t.Errorf("%q: %+v", text, p)
		}
	}
}

// A Store's cell is made of its list of expressions: the second one must not be overwritten or told for a place.
func TestCheckLeavesExprs(t *testing.T) {
	es := []api.Expr{lit(1), name("k"), name("beyond")}
	was := slices.Clone(es)
	s := api.Stmt{Kind: api.Store, Name: "s", Exprs: es[:2]}
	if err := Check(api.Program{Decls: decls(), Threads: [][]api.Stmt{{s}}}); err != nil || !reflect.DeepEqual(es, was) {
		t.Error(err, es)
	}
}

// Blocks may stand in each other as deep as they like, and there may be many of them.
func TestCheckDeep(t *testing.T) {
	const deep = 1 << 15
	last := api.Stmt{Kind: api.Output, Exprs: []api.Expr{lit(1)}, At: 9}
	under, secret := []api.Stmt{last}, []api.Stmt{last}
	for i := range deep {
		step := api.Stmt{Kind: api.If, Exprs: []api.Expr{name("a")}, At: 3}
		hide := api.Stmt{Kind: api.If, Exprs: []api.Expr{name("k")}, At: 4}
		if i%2 == 0 {
			step.Body, hide.Body = under, secret
		} else {
			step.Else, hide.Else = under, secret
		}
		under, secret = []api.Stmt{step}, []api.Stmt{hide}
	}
	checkErr(t, api.Program{Decls: decls(), Threads: [][]api.Stmt{under}}, 0, 0)
	checkErr(t, api.Program{Decls: decls(), Threads: [][]api.Stmt{secret}}, api.ErrFlow, 9)
	var many []api.Stmt
	for range deep {
		many = append(many, api.Stmt{Kind: api.Loop, Name: "i", Count: 4, Body: []api.Stmt{{Kind: api.Local, Name: "x", Exprs: []api.Expr{name("i")}}}})
	}
	checkErr(t, api.Program{Decls: decls(), Threads: [][]api.Stmt{many, many}}, 0, 0)
}
