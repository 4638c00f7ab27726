package flow

import (
	"math"
	"math/big"
	"math/rand/v2"
	"testing"

	"tautochrone/api"
	"tautochrone/scope"
	"tautochrone/word"
)

func lit(v uint64) api.Expr { return api.Expr{Kind: api.Literal, Value: v} }

func name(n string) api.Expr { return api.Expr{Kind: api.Name, Name: n} }

func cell(n string, kids ...api.Expr) api.Expr {
	return api.Expr{Kind: api.Cell, Name: n, Kids: kids}
}

func binary(op api.Op, kids ...api.Expr) api.Expr {
	return api.Expr{Kind: api.Binary, Op: op, Kids: kids}
}

func not(kids ...api.Expr) api.Expr { return api.Expr{Kind: api.Not, Kids: kids} }

func pick(kids ...api.Expr) api.Expr { return api.Expr{Kind: api.Pick, Kids: kids} }

func odd(kind api.ExprKind, kids ...api.Expr) api.Expr { return api.Expr{Kind: kind, Kids: kids} }

// at is an expression at another place.
func at(place int, e api.Expr) api.Expr {
	e.At = place
	return e
}

// names is a scope with a name of every kind: a lock, cells, arrays, locals and counters.
func names(t *testing.T) *scope.Scope {
	t.Helper()
	s, err := scope.Of([]api.Decl{
		{Name: "l", Lock: true}, {Name: "a"}, {Name: "k", Label: api.Secret}, {Name: "b", By: "l"}, {Name: "odd", Label: 7},
		{Name: "p", Size: 4}, {Name: "s", Label: api.Secret, Size: 4}, {Name: "one", Size: 1}, {Name: "odds", Label: -1, Size: 4}, {Name: "wide", Size: api.MaxSize},
		{Name: "huge", Size: 1 << 30}, {Name: "vast", Size: 1<<30 + 1},
	})
	if err != nil {
		t.Fatal(err)
	}
	enter(t, s, "x", api.Public, 0)
	enter(t, s, "y", api.Secret, 0)
	enter(t, s, "w", 7, 0)
	for n, count := range counters() {
		enter(t, s, n, api.Public, count)
	}
	enter(t, s, "hidden", api.Secret, 4)
	enter(t, s, "strange", -3, 4)
	return s
}

func counters() map[string]int {
	return map[string]int{"i1": 1, "i2": 2, "i3": 3, "i4": 4, "i5": 5, "i64": 64, "i65": 65, "i256": 256, "i30": 1 << 30, "i31": 1<<30 + 1, "i32": 1<<30 + 2, "i33": 1 << 33, "most": math.MaxInt}
}

func enter(t *testing.T, s *scope.Scope, n string, l api.Label, count int) {
	t.Helper()
	if !s.Enter(n, l, count) {
		t.Fatal(n)
	}
}

func checkBound(t *testing.T, s *scope.Scope, e api.Expr, want int) {
	t.Helper()
	if b := Bound(s, e); b != want {
		t.Errorf("Bound(%.300v) = %d, not %d", e, b, want)
	}
}

func operators() []api.Op {
	return []api.Op{api.Add, api.Sub, api.Mul, api.And, api.Or, api.Xor, api.Shl, api.Shr, api.Equal, api.Less}
}

func strangeOperators() []api.Op {
	return []api.Op{-1, 10, 11, 256, math.MinInt, math.MaxInt}
}

func strangeKinds() []api.ExprKind {
	return []api.ExprKind{-1, 6, 7, 256, math.MinInt, math.MaxInt}
}

func TestBoundLiteral(t *testing.T) {
	s := names(t)
	for _, v := range []uint64{0, 1, 2, 3, 63, 64, 255, 256, 1 << 16, 1<<30 - 2, 1<<30 - 1} {
		checkBound(t, s, lit(v), int(v))
	}
	for _, v := range []uint64{1 << 30, 1<<30 + 1, 1 << 31, 1<<31 + 5, 1 << 32, 1<<32 + 1, 1<<63 - 1, 1 << 63, 1<<63 + 1, math.MaxUint64 - 1, math.MaxUint64} {
		checkBound(t, s, lit(v), 1<<30)
	}
}

func TestBoundName(t *testing.T) {
	s := names(t)
	for n, count := range counters() {
		checkBound(t, s, name(n), min(count-1, 1<<30))
	}
	checkBound(t, s, name("hidden"), 3)
	checkBound(t, s, name("strange"), 3)
	for _, n := range []string{"l", "a", "k", "b", "odd", "p", "s", "one", "x", "y", "w", "none", "", "i"} {
		checkBound(t, s, name(n), 1<<30)
	}
	s.Leave(0)
	checkBound(t, s, name("i4"), 1<<30)
}

// A name's other fields are not asked for, nor a literal's.
func TestBoundFields(t *testing.T) {
	s := names(t)
	checkBound(t, s, api.Expr{Kind: api.Name, Name: "i4", Value: 9, Op: api.Mul, Kids: []api.Expr{lit(1), lit(2)}}, 3)
	checkBound(t, s, api.Expr{Kind: api.Name, Name: "a", Value: 9}, 1<<30)
	checkBound(t, s, api.Expr{Kind: api.Literal, Name: "i4", Value: 9, Op: api.Equal, Kids: []api.Expr{lit(1), lit(2)}}, 9)
	checkBound(t, s, api.Expr{Kind: api.Binary, Name: "i4", Value: 9, Op: api.Add, Kids: []api.Expr{lit(1), lit(2)}, At: 5}, 3)
}

// boundsOfTwo is what the document says of two bounds, in numbers that do not go round.
func boundsOfTwo(op api.Op, a, b int) int {
	x, y, out := big.NewInt(int64(a)), big.NewInt(int64(b)), big.NewInt(1<<30)
	switch op {
	case api.Add:
		out.Add(x, y)
	case api.Mul:
		out.Mul(x, y)
	case api.And:
		out = x
		if y.Cmp(x) < 0 {
			out = y
		}
	case api.Equal, api.Less:
		return 1
	}
	if out.Cmp(big.NewInt(1<<30)) > 0 {
		return 1 << 30
	}
	return int(out.Int64())
}

func TestBoundOfTwo(t *testing.T) {
	s := names(t)
	values := []uint64{0, 1, 2, 3, 7, 1 << 14, 1<<15 - 1, 1 << 15, 1<<15 + 1, 1<<16 - 1, 1 << 16, 1<<29 - 1, 1 << 29, 1<<29 + 1, 1<<30 - 2, 1<<30 - 1, 1 << 30, 1<<30 + 1, 1 << 34, 1 << 62, 1 << 63, math.MaxUint64}
	for _, op := range append(operators(), strangeOperators()...) {
		for _, a := range values {
			for _, b := range values {
				checkBound(t, s, binary(op, lit(a), lit(b)), boundsOfTwo(op, int(min(a, 1<<30)), int(min(b, 1<<30))))
			}
		}
	}
}

func TestBoundTable(t *testing.T) {
	s := names(t)
	for _, x := range []struct {
		e    api.Expr
		want int
	}{
		{binary(api.And, name("a"), lit(3)), 3}, {binary(api.And, lit(3), name("a")), 3},
		{binary(api.And, name("k"), name("i4")), 3}, {binary(api.And, lit(2), name("i4")), 2}, {binary(api.And, name("i4"), lit(2)), 2},
		{binary(api.And, name("a"), name("a")), 1 << 30}, {binary(api.And, name("a"), lit(0)), 0},
		{binary(api.Add, name("i4"), name("i5")), 7}, {binary(api.Add, name("i1"), name("i1")), 0}, {binary(api.Add, name("a"), lit(0)), 1 << 30},
		{binary(api.Mul, name("i4"), name("i5")), 12}, {binary(api.Mul, name("a"), lit(0)), 0}, {binary(api.Mul, lit(0), name("a")), 0},
		{binary(api.Mul, name("a"), name("i1")), 0}, {binary(api.Mul, name("a"), lit(1)), 1 << 30}, {binary(api.Mul, name("none"), lit(0)), 0},
		{binary(api.Add, lit(1<<29), lit(1<<29)), 1 << 30}, {binary(api.Add, lit(1<<29), lit(1<<29-1)), 1<<30 - 1}, {binary(api.Add, lit(1<<30-1), lit(1)), 1 << 30}, {binary(api.Add, lit(1<<30-1), lit(2)), 1 << 30},
		{binary(api.Mul, lit(1<<15), lit(1<<15)), 1 << 30}, {binary(api.Mul, lit(1<<15-1), lit(1<<15+1)), 1<<30 - 1}, {binary(api.Mul, lit(1<<15), lit(1<<15+1)), 1 << 30},
		{binary(api.Add, lit(math.MaxUint64), lit(1)), 1 << 30}, {binary(api.Mul, lit(1<<32), lit(1<<32)), 1 << 30},
		{binary(api.Equal, name("a"), name("k")), 1}, {binary(api.Less, name("a"), name("k")), 1}, {binary(api.Equal, lit(0), lit(0)), 1}, {binary(api.Less, lit(5), lit(0)), 1},
		{binary(api.Sub, lit(3), lit(1)), 1 << 30}, {binary(api.Or, lit(0), lit(0)), 1 << 30}, {binary(api.Xor, lit(1), lit(1)), 1 << 30},
		{binary(api.Shl, lit(1), lit(1)), 1 << 30}, {binary(api.Shr, lit(1), lit(1)), 1 << 30},
		{binary(api.Mul, binary(api.Add, name("i4"), lit(1)), binary(api.And, name("a"), lit(7))), 28},
		{binary(api.And, binary(api.Mul, name("a"), name("a")), binary(api.Add, lit(2), binary(api.Less, name("a"), lit(9)))), 3},
		{binary(api.Mul, binary(api.Mul, lit(1<<30), lit(1<<30)), binary(api.Mul, lit(1<<30), lit(1<<30))), 1 << 30},
		{binary(api.Mul, binary(api.Mul, lit(1<<20), lit(1<<20)), lit(0)), 0},
		{binary(api.Equal, binary(api.Sub), cell("none")), 1},
		{cell("one", lit(0)), 1 << 30}, {cell("p", name("i4")), 1 << 30}, {cell("i4", lit(0)), 1 << 30}, {cell("i4"), 1 << 30},
		{not(lit(0)), 1 << 30}, {not(lit(math.MaxUint64)), 1 << 30}, {not(), 1 << 30}, {not(lit(1), lit(2)), 1 << 30},
		{pick(lit(0), lit(1), lit(2)), 1 << 30}, {pick(lit(1), lit(1)), 1 << 30}, {pick(), 1 << 30},
	} {
		checkBound(t, s, x.e, x.want)
	}
}

// A Binary that has not two kids is bounded by nothing, whatever its operator.
func TestBoundKids(t *testing.T) {
	s := names(t)
	for _, op := range append(operators(), strangeOperators()...) {
		for _, kids := range [][]api.Expr{nil, {}, {lit(1)}, {lit(1), lit(2), lit(3)}, {lit(0), lit(0), lit(0), lit(0)}} {
			checkBound(t, s, binary(op, kids...), 1<<30)
		}
	}
}

func TestBoundStrange(t *testing.T) {
	s := names(t)
	for _, kind := range strangeKinds() {
		for _, kids := range [][]api.Expr{nil, {lit(1)}, {lit(1), lit(2)}, {lit(1), lit(2), lit(3)}} {
			checkBound(t, s, api.Expr{Kind: kind, Name: "i4", Value: 3, Op: api.And, Kids: kids}, 1<<30)
		}
	}
}

func TestBoundDeep(t *testing.T) {
	s := names(t)
	sum, product, first, last := lit(0), lit(1), lit(9), lit(9)
	for range 1 << 16 {
		sum = binary(api.Add, sum, lit(1))
		product = binary(api.Mul, lit(3), product)
		first = binary(api.And, first, name("a"))
		last = binary(api.And, name("a"), last)
	}
	checkBound(t, s, sum, 1<<16)
	checkBound(t, s, product, 1<<30)
	checkBound(t, s, first, 9)
	checkBound(t, s, last, 9)
}

// No value of an expression is above a bound that tells something.
func TestBoundHolds(t *testing.T) {
	s := names(t)
	r := rand.New(rand.NewPCG(7, 1))
	told := 0
	for range 100000 {
		e, v := valued(r, 4)
		b := Bound(s, e)
		if b < 0 || b > 1<<30 {
			t.Fatalf("Bound(%v) = %d", e, b)
		}
		if b == 1<<30 {
			continue
		}
		told++
		if v > uint64(b) {
			t.Fatalf("Bound(%v) = %d, a value is %d", e, b, v)
		}
	}
	if told < 10000 {
		t.Error(told)
	}
}

// valued is an expression, and a value that it may have.
func valued(r *rand.Rand, deep int) (api.Expr, uint64) {
	switch n := r.IntN(8); {
	case deep == 0 && n < 3:
		v := r.Uint64() >> r.IntN(65)
		return lit(v), v
	case deep == 0 && n < 6:
		return name("i5"), r.Uint64N(5)
	case deep == 0:
		return name("a"), r.Uint64() >> r.IntN(65)
	}
	op := operators()[r.IntN(len(operators()))]
	a, v := valued(r, r.IntN(deep))
	b, w := valued(r, r.IntN(deep))
	return binary(op, a, b), word.Apply(op, v, w)
}
