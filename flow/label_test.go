package flow

import (
	"errors"
	"math/rand/v2"
	"reflect"
	"testing"

	"tautochrone/api"
	"tautochrone/scope"
)

func checkLabel(t *testing.T, s *scope.Scope, e api.Expr, want api.Label) {
	t.Helper()
	if l, err := Label(s, e); l != want || err != nil {
		t.Errorf("Label(%.300v) = %d, %v, not %d", e, l, err, want)
	}
}

// checkFault holds that an error tells what is wrong and where, and that errors.Is and errors.As find both.
func checkFault(t *testing.T, err error, want api.Errno, place int) {
	t.Helper()
	var f *api.Fault
	if !errors.Is(err, want) || api.Number(err) != want || !errors.As(err, &f) || f.At != place {
		t.Errorf("%v, not %v at %d", err, want, place)
	}
}

func checkWrong(t *testing.T, s *scope.Scope, e api.Expr, want api.Errno, place int) {
	t.Helper()
	l, err := Label(s, e)
	if l != api.Public {
		t.Errorf("Label(%.300v): %d beside an error", e, l)
	}
	checkFault(t, err, want, place)
}

func TestLabelLiteral(t *testing.T) {
	s := names(t)
	for _, v := range []uint64{0, 1, 1 << 30, 1<<64 - 1} {
		checkLabel(t, s, lit(v), api.Public)
	}
}

func TestLabelName(t *testing.T) {
	s := names(t)
	for n, want := range map[string]api.Label{"a": api.Public, "k": api.Secret, "b": api.Public, "odd": 7, "x": api.Public, "y": api.Secret, "w": 7, "i4": api.Public, "i1": api.Public, "hidden": api.Secret, "strange": -3} {
		checkLabel(t, s, at(9, name(n)), want)
	}
	for _, n := range []string{"l", "p", "s", "one", "odds", "none", "", "A"} {
		for _, place := range []int{0, 1, 77, -1, 1 << 20} {
			checkWrong(t, s, at(place, name(n)), api.ErrType, place)
		}
	}
	s.Leave(0)
	checkWrong(t, s, at(5, name("x")), api.ErrType, 5)
	checkWrong(t, s, at(6, name("i4")), api.ErrType, 6)
}

func TestLabelCell(t *testing.T) {
	s := names(t)
	for n, want := range map[string]api.Label{"p": api.Public, "s": api.Secret, "odds": -1} {
		for _, place := range []api.Expr{lit(0), lit(3), name("i1"), name("i4"), binary(api.And, name("a"), lit(3)), binary(api.And, lit(3), name("x")), binary(api.Add, name("i3"), lit(1)), binary(api.Less, name("a"), lit(9)), binary(api.Mul, name("a"), lit(0)), binary(api.And, cell("p", lit(2)), lit(3))} {
			checkLabel(t, s, cell(n, at(4, place)), want)
		}
		for _, place := range []api.Expr{lit(4), lit(5), lit(1 << 30), lit(1<<64 - 1), name("i5"), name("a"), name("x"), binary(api.And, name("a"), lit(4)), binary(api.Add, name("i4"), lit(1)), binary(api.Sub, lit(3), lit(3)), cell("p", lit(0)), not(lit(0)), pick(lit(1), lit(1), lit(1))} {
			checkWrong(t, s, at(3, cell(n, at(4, place))), api.ErrType, 4)
		}
		for _, place := range []api.Expr{name("k"), name("y"), name("w"), name("odd"), name("hidden"), name("strange"), cell("s", lit(0)), binary(api.And, name("k"), lit(3)), binary(api.And, lit(3), name("k")), binary(api.Mul, name("k"), lit(0)), binary(api.Add, name("i2"), name("hidden")), pick(name("a"), lit(1), name("y"))} {
			checkWrong(t, s, at(3, cell(n, at(4, place))), api.ErrFlow, 4)
		}
	}
	checkLabel(t, s, cell("one", lit(0)), api.Public)
	checkWrong(t, s, cell("one", at(2, lit(1))), api.ErrType, 2)
	checkLabel(t, s, cell("wide", name("i64")), api.Public)
	checkLabel(t, s, cell("wide", lit(63)), api.Public)
	checkWrong(t, s, cell("wide", at(2, name("i65"))), api.ErrType, 2)
	checkWrong(t, s, cell("wide", at(2, lit(64))), api.ErrType, 2)
}

// A bound of 2^30 is like another one: it is below a size that is above it.
func TestLabelGreatArrays(t *testing.T) {
	s := names(t)
	checkLabel(t, s, cell("huge", lit(1<<30-1)), api.Public)
	checkWrong(t, s, cell("huge", at(2, lit(1<<30))), api.ErrType, 2)
	checkLabel(t, s, cell("vast", lit(1<<30)), api.Public)
}

func TestLabelCellKids(t *testing.T) {
	s := names(t)
	wrong := at(8, name("none"))
	for _, kids := range [][]api.Expr{nil, {}, {lit(0), lit(0)}, {wrong, lit(0)}, {lit(0), wrong}, {at(8, name("k")), lit(0)}, {lit(0), lit(0), lit(0)}} {
		for _, n := range []string{"p", "s", "a", "none"} {
			checkWrong(t, s, at(3, cell(n, kids...)), api.ErrType, 3)
		}
	}
}

// What is no array is told ahead of what is wrong of the place.
func TestLabelNoArray(t *testing.T) {
	s := names(t)
	for _, n := range []string{"l", "a", "k", "b", "x", "y", "i4", "hidden", "none", ""} {
		for _, place := range []api.Expr{lit(0), name("k"), name("none"), lit(100), cell("p", name("k"))} {
			checkWrong(t, s, at(3, cell(n, at(4, place))), api.ErrType, 3)
		}
	}
}

// The place's own error is told ahead of its label, that ahead of its bound, each at its own place.
func TestLabelPlaceOrder(t *testing.T) {
	s := names(t)
	place := at(5, binary(api.Add, at(5, name("k")), at(6, name("none"))))
	checkWrong(t, s, at(3, cell("p", place)), api.ErrType, 6)
	checkWrong(t, s, at(3, cell("p", at(5, binary(api.Add, at(5, name("k")), at(6, lit(9)))))), api.ErrFlow, 5)
	checkWrong(t, s, at(3, cell("p", at(5, binary(api.Add, at(5, name("a")), at(6, lit(9)))))), api.ErrType, 5)
	checkWrong(t, s, at(3, cell("p", at(4, cell("p", at(5, name("k")))))), api.ErrFlow, 5)
	checkWrong(t, s, at(3, cell("p", at(4, cell("s", at(5, lit(4)))))), api.ErrType, 5)
	checkWrong(t, s, at(3, cell("p", at(4, cell("s", at(5, lit(3)))))), api.ErrFlow, 4)
	checkWrong(t, s, at(3, cell("p", at(4, cell("p", at(5, lit(3)))))), api.ErrType, 4)
	checkWrong(t, s, at(3, cell("s", at(4, binary(api.And, at(7, cell("a", lit(0))), name("k"))))), api.ErrType, 7)
}

func others(kids ...api.Expr) []api.Expr {
	out := []api.Expr{not(kids...), pick(kids...)}
	for _, op := range append(operators(), strangeOperators()...) {
		out = append(out, binary(op, kids...))
	}
	for _, kind := range strangeKinds() {
		out = append(out, odd(kind, kids...))
	}
	return out
}

// All others are as secret as one of their kids is, wherever that stands and however many there are.
func TestLabelOthers(t *testing.T) {
	s := names(t)
	public := []api.Expr{lit(5), name("a"), name("x"), name("i4"), cell("p", lit(1))}
	secret := []api.Expr{name("k"), name("y"), name("w"), name("odd"), name("hidden"), name("strange"), cell("s", lit(1)), cell("odds", lit(1)), not(name("k"))}
	for n := range 5 {
		var kids []api.Expr
		for i := range n {
			kids = append(kids, public[i])
		}
		for _, e := range others(kids...) {
			checkLabel(t, s, at(3, e), api.Public)
		}
		for i := range n {
			for _, k := range secret {
				some := append([]api.Expr{}, kids...)
				some[i] = k
				for _, e := range others(some...) {
					checkLabel(t, s, e, api.Secret)
				}
			}
		}
	}
	for _, e := range others(name("odd"), name("w"), name("odd"), name("strange")) {
		checkLabel(t, s, e, api.Secret)
	}
}

// Of several kids that are wrong the first is told, wherever it stands in the text.
func TestLabelFirst(t *testing.T) {
	s := names(t)
	type fault struct {
		e    api.Expr
		want api.Errno
		at   int
	}
	faults := []fault{
		{at(90, name("none")), api.ErrType, 90}, {at(80, name("l")), api.ErrType, 80}, {at(70, cell("p")), api.ErrType, 70},
		{cell("p", at(60, name("k"))), api.ErrFlow, 60}, {cell("p", at(50, lit(4))), api.ErrType, 50}, {not(at(40, name("p"))), api.ErrType, 40},
		{pick(lit(1), name("k"), binary(api.Sub, name("y"), at(30, name("none")))), api.ErrType, 30},
	}
	for _, f := range faults {
		checkWrong(t, s, f.e, f.want, f.at)
		for _, kids := range [][]api.Expr{{f.e}, {f.e, lit(1)}, {lit(1), f.e}, {name("k"), f.e}, {name("k"), name("a"), f.e}, {name("k"), f.e, name("a")}, {f.e, name("k"), name("a")}} {
			for _, e := range others(kids...) {
				checkWrong(t, s, at(1, e), f.want, f.at)
			}
		}
		for _, g := range faults {
			for _, kids := range [][]api.Expr{{f.e, g.e}, {lit(1), f.e, g.e}, {f.e, lit(1), g.e}, {not(f.e), g.e}, {f.e, not(g.e)}, {pick(lit(1), f.e, g.e), g.e}} {
				for _, e := range others(kids...) {
					checkWrong(t, s, at(1, e), f.want, f.at)
				}
			}
		}
	}
}

func TestLabelDeep(t *testing.T) {
	s := names(t)
	e, wrong, nested := lit(1), at(7, name("none")), lit(1)
	for i := range 1 << 16 {
		e = binary(api.Sub, e, lit(1))
		wrong = binary(api.Sub, at(9, name("k")), wrong)
		nested = cell("p", at(i, binary(api.And, nested, lit(3))))
	}
	checkLabel(t, s, e, api.Public)
	checkLabel(t, s, binary(api.Sub, name("k"), e), api.Secret)
	checkLabel(t, s, nested, api.Public)
	checkWrong(t, s, wrong, api.ErrType, 7)
}

// Neither the scope nor the expression is another one behind the calls.
func TestLabelLeavesAll(t *testing.T) {
	s := names(t)
	e := binary(api.Add, cell("p", at(4, binary(api.And, name("a"), lit(3)))), pick(name("k"), not(name("i4")), cell("s", lit(9))))
	was := binary(api.Add, cell("p", at(4, binary(api.And, name("a"), lit(3)))), pick(name("k"), not(name("i4")), cell("s", lit(9))))
	mark := s.Mark()
	for range 3 {
		Bound(s, e)
		checkWrong(t, s, e, api.ErrType, 0)
	}
	if !reflect.DeepEqual(e, was) || s.Mark() != mark {
		t.Error(e, s.Mark())
	}
	checkLabel(t, s, name("x"), api.Public)
	checkLabel(t, s, name("hidden"), api.Secret)
}

// A scope that nobody declared anything in has no names.
func TestEmptyScope(t *testing.T) {
	s := new(scope.Scope)
	checkBound(t, s, name("a"), 1<<30)
	checkLabel(t, s, lit(3), api.Public)
	checkWrong(t, s, at(3, name("a")), api.ErrType, 3)
	checkWrong(t, s, at(3, cell("a", lit(0))), api.ErrType, 3)
}

// Under expressions at random Label and Bound tell what the plain rules tell.
func TestLabelRandom(t *testing.T) {
	s := names(t)
	plain := plainNames(s)
	r := rand.New(rand.NewPCG(7, 2))
	counts := map[api.Errno]int{}
	for i := range 50000 {
		e := randomExpr(r, 4, i)
		wantLabel, want, place := plain.label(e)
		l, err := Label(s, e)
		counts[want]++
		if want == 0 && err != nil || l != wantLabel || api.Number(err) != want || want != 0 && api.Place(err) != place {
			t.Fatalf("Label(%v) = %d, %v, not %d, %v at %d", e, l, err, wantLabel, want, place)
		}
		if b := Bound(s, e); int64(b) != plain.bound(e).Int64() {
			t.Fatalf("Bound(%v) = %d, not %v", e, b, plain.bound(e))
		}
	}
	if counts[0] < 5000 || counts[api.ErrType] < 5000 || counts[api.ErrFlow] < 1000 {
		t.Error(counts)
	}
}
