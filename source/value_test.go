package source

import (
	"math"
	"strconv"
	"strings"
	"testing"

	"tautochrone/api"
	"tautochrone/flow"
	"tautochrone/word"
)

const cells = "public a; public b; lock l; public q[4]; public c; public w[64]; public one[1]; "

// startCells are the values of cells: a 5, b 3, q 10 to 13, c 7, w 0 to 63 times 100, one 8.
func startCells() []uint64 {
	values := []uint64{5, 3, 1, 10, 11, 12, 13, 7}
	for i := range uint64(64) {
		values = append(values, 100*i)
	}
	return append(values, 8)
}

// comes holds what an expression comes to, wherever it stands, behind statements that go ahead of it.
func comes(t *testing.T, ahead, expr string, want uint64) {
	t.Helper()
	for _, use := range []string{"output E;", "local z_ = E; output z_;", "c = E; output c;", "add c E; output c - 7;", "q[2] = E; output q[2];", "if (1) { output E; }", "if (0) { } else { output E; }", "loop z_ 1 { output E; }", "output pick(1, E, 0);", "output (E);", "output ~~(E);", "one[0] = 0 + (E); output one[0];"} {
		m := machine(t, cells+"thread { "+ahead+strings.ReplaceAll(use, "E", expr)+" }", startCells()...)
		if !m.Run(nil) {
			t.Error("not done")
		}
		hasOutput(t, m, 0, want)
	}
	m := machine(t, cells+"thread { "+ahead+"if ("+expr+") { output 1; } else { output 0; } }", startCells()...)
	m.Run(nil)
	hasOutput(t, m, 0, min(want, 1))
	if t.Failed() {
		t.Fatalf("%q behind %q: not %d", expr, ahead, want)
	}
}

func TestLiterals(t *testing.T) {
	for _, n := range []uint64{0, 1, 2, 9, 10, 255, 256, 1<<31 - 1, 1 << 31, 1 << 32, 1<<53 + 1, 1<<63 - 1, 1 << 63, math.MaxUint64} {
		comes(t, "", strconv.FormatUint(n, 10), n)
	}
}

func TestNames(t *testing.T) {
	comes(t, "", "a", 5)
	comes(t, "", "b", 3)
	comes(t, "", "c", 7)
	comes(t, "a = 9;", "a", 9)
	comes(t, "a = 9;", "b", 3)
	comes(t, "local x = 4;", "x", 4)
	comes(t, "local x = a;", "x", 5)
	comes(t, "local x = a; a = 6;", "x", 5)
	comes(t, "local x = a; x = 6;", "a", 5)
}

// Locals of locals, and in one another; a name that begins another one is not that.
func TestLocals(t *testing.T) {
	comes(t, "local x = 4; local y = x + 1; local z = y * x;", "z - y - x", 11)
	comes(t, "local x = 4; local y = x; x = 9;", "y", 4)
	comes(t, "local x = 4; local y = x; x = 9;", "x", 9)
	comes(t, "local x = 4; local xx = 5; local x1 = 6; local aa = 7;", "x * 1000 + xx * 100 + x1 * 10 + aa + a", 4572)
	comes(t, "local x = 4; if (x) { local y = x + 1; if (y) { local z = y + 1; x = x + y + z; } }", "x", 15)
	comes(t, "local x = 4; if (0) { x = 1; } else { local y = x + 1; loop i 3 { local z = y + i; x = x + z; } }", "x", 22)
	comes(t, "local x = 0; loop i 3 { loop j 4 { x = x * 10 + i + j; } }", "x", 12312342345)
	comes(t, "local x = 2; loop i 2 { local y = x; loop j 2 { local z = y * x; y = z; } x = y + i; }", "x", 513)
	// A local may have the name that one had which is no more, or which another thread has.
	comes(t, "if (1) { local x = 1; x = 2; } local x = 7;", "x", 7)
	comes(t, "loop i 3 { local x = i; } local i = 8; if (i) { local x = 6; i = x; }", "i", 6)
}

func TestCells(t *testing.T) {
	for i := range uint64(4) {
		n := strconv.FormatUint(i, 10)
		comes(t, "", "q["+n+"]", 10+i)
		comes(t, "local x = "+n+";", "q[x & 3]", 10+i)
		comes(t, "b = "+n+";", "q[b & 3]", 10+i)
		comes(t, "q["+n+"] = 99;", "q["+n+"]", 99)
		comes(t, "", "q["+n+" * (a == 5)]", 10+i)
	}
	for i := range uint64(64) {
		comes(t, "local x = "+strconv.FormatUint(i, 10)+";", "w[x & 63]", 100*i)
	}
	comes(t, "", "one[0]", 8)
	comes(t, "", "one[b & 0]", 8)
	comes(t, "", "q[q[q[0] & 3] & 3]", 10)
	comes(t, "q[1] = 2; q[2] = 7;", "q[q[1] & 3] + q[q[2] & 3]", 20)
	comes(t, "local x = 0; loop i 4 { x = x * 100 + q[i]; }", "x", 10111213)
	comes(t, "local x = 0; loop i 3 { x = x * 100 + q[i + 1]; }", "x", 111213)
}

// A place of an array that there is not has 0, whatever lies there, and nothing is written to it. (Flow takes such a place of an array that says it has more than there may be.)
func TestNoSuchCells(t *testing.T) {
	place := func(n uint64) []api.Expr { return []api.Expr{{Kind: api.Literal, Value: n}} }
	for _, n := range []uint64{64, 65, 66, 70, 99} {
		p := api.Program{Decls: []api.Decl{{Name: "a"}, {Name: "q", Size: 100}, {Name: "b", Size: 50}}, Threads: [][]api.Stmt{{
			{Kind: api.Store, Name: "q", Exprs: append(place(n), place(7)...)},
			{Kind: api.Output, Exprs: []api.Expr{{Kind: api.Cell, Name: "q", Kids: place(n)}}},
			{Kind: api.Output, Exprs: []api.Expr{{Kind: api.Cell, Name: "q", Kids: place(63)}}},
		}}}
		if err := flow.Check(p); err != nil {
			t.Fatal(err)
		}
		values := make([]uint64, 115)
		for i := range values {
			values[i] = uint64(i) + 1000
		}
		m := Of(p, values)
		if !m.Run(nil) {
			t.Error("not done")
		}
		hasOutput(t, m, 0, 0, 1064)
		hasCells(t, m, values...)
	}
}

// Of programs that flow does not take: a place behind the end, or that is no place at all, is none either.
func TestNoSuchPlaces(t *testing.T) {
	for _, n := range []uint64{4, 5, 6, 7, 8, 63, 64, 1 << 31, 1 << 32, 1<<32 + 1, 1<<63 - 1, 1 << 63, 1<<63 + 1, math.MaxUint64 - 7, math.MaxUint64 - 1, math.MaxUint64} {
		at := strconv.FormatUint(n, 10)
		m := Of(program(t, cells+"thread { output q["+at+"]; q["+at+"] = 99; output 1 + q["+at+"]; output w["+strconv.FormatUint(max(n, 64), 10)+"]; }"), startCells())
		if !m.Run(nil) {
			t.Error("not done")
		}
		hasOutput(t, m, 0, 0, 1, 0)
		want := startCells()
		want[2] = 0
		hasCells(t, m, want...)
	}
	for _, text := range []string{"output none;", "output none[0];", "output a[1];", "output c[a];", "output l[1];", "output none + none[none];"} {
		m := Of(program(t, cells+"thread { "+text+" }"), startCells())
		if !m.Run(nil) {
			t.Error("not done")
		}
		hasOutput(t, m, 0, 0)
	}
}

// words are those at which operators have their edges.
func words() []uint64 {
	return []uint64{0, 1, 2, 3, 7, 8, 31, 32, 63, 64, 65, 127, 128, 1<<31 - 1, 1 << 31, 1 << 32, 1<<63 - 1, 1 << 63, 1<<63 + 1, math.MaxUint64 - 1, math.MaxUint64}
}

// All operators, of all words, of cells, locals, numbers, and what was worked out.
func TestOperators(t *testing.T) {
	var text strings.Builder
	for _, sign := range word.Signs() {
		text.WriteString("output a " + sign + " b; output x " + sign + " (a " + sign + " y); ")
	}
	p := taken(t, "public a; public b; thread { local x = a; local y = b; "+text.String()+"output ~a; output pick(a, b, ~b); output pick(~a, a, b); }")
	for _, a := range words() {
		for _, b := range words() {
			m := Of(p, []uint64{a, b})
			if !m.Run(nil) {
				t.Fatal("not done")
			}
			var want []uint64
			for op := api.Add; op <= api.Less; op++ {
				want = append(want, word.Apply(op, a, b), word.Apply(op, a, word.Apply(op, a, b)))
			}
			want = append(want, ^a, word.Pick(a, b, ^b), word.Pick(^a, a, b))
			hasOutput(t, m, 0, want...)
			hasCells(t, m, a, b)
		}
	}
}

// What operators ask for in numbers that were worked out by hand.
func TestOperatorsByHand(t *testing.T) {
	const top = math.MaxUint64
	for _, x := range []struct {
		expr string
		want uint64
	}{
		{"a + b", 8}, {"b - a", top - 1}, {"a - b", 2}, {"a * b", 15}, {"a & b", 1}, {"a | b", 7}, {"a ^ b", 6}, {"a << b", 40}, {"a >> 1", 2}, {"1 << 65", 2}, {"a == 5", 1}, {"a == b", 0}, {"b < a", 1}, {"a < b", 0}, {"a < a", 0},
		{"~0", top}, {"~~a", 5}, {"~a", top - 5}, {"~a + 1 + a", 0},
		{"pick(0, 1, 2)", 2}, {"pick(1, 1, 2)", 1}, {"pick(8, a, b)", 5}, {"pick(1 << 63, a, b)", 5}, {"pick(a == b, a, b)", 3}, {"pick(pick(0, 0, 1), pick(1, 6, 7), pick(1, 8, 9))", 6},
		{"1 + 2 * 3", 7}, {"(1 + 2) * 3", 9}, {"10 - 4 - 3", 3}, {"10 - (4 - 3)", 9}, {"1 << 2 << 3", 32}, {"1 | 2 ^ 3 & 1", 3}, {"1 < 2 == 1", 1}, {"18446744073709551615 + 1", 0}, {"18446744073709551615 * 2", top - 1}, {"0 - 1 < 1", 0},
		{"q[a & b & 3] * pick(b < a, ~q[3] + q[3], 1)", top - 10},
	} {
		comes(t, "", x.expr, x.want)
	}
}

// Expressions as deep as they may be, and deeper.
func TestDeepExprs(t *testing.T) {
	comes(t, "", strings.Repeat("~", api.MaxDeep-9)+"a", ^uint64(5))
	comes(t, "", strings.Repeat("(1 + ", 15)+"a"+strings.Repeat(")", 15), 20)
	e := api.Expr{Kind: api.Name, Name: "a"}
	for range 1 << 15 {
		e = api.Expr{Kind: api.Binary, Op: api.Add, Kids: []api.Expr{{Kind: api.Literal, Value: 2}, e}}
	}
	m := Of(api.Program{Decls: []api.Decl{{Name: "a"}}, Threads: [][]api.Stmt{{{Kind: api.Output, Exprs: []api.Expr{e}}}}}, []uint64{5})
	m.Run(nil)
	hasOutput(t, m, 0, 1<<16+5)
}
