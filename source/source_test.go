package source

import (
	"math"
	"reflect"
	"slices"
	"strings"
	"testing"

	"tautochrone/api"
	"tautochrone/flow"
	"tautochrone/parse"
)

func program(t *testing.T, text string) api.Program {
	t.Helper()
	p, err := parse.Program(text)
	if err != nil {
		t.Fatalf("%q: %v", text, err)
	}
	return p
}

// taken is the program of a text, which flow takes: of others little is promised.
func taken(t *testing.T, text string) api.Program {
	t.Helper()
	p := program(t, text)
	if err := flow.Check(p); err != nil {
		t.Fatalf("%q: %v", text, err)
	}
	return p
}

func machine(t *testing.T, text string, cells ...uint64) *Machine {
	t.Helper()
	return Of(taken(t, text), cells)
}

func hasCells(t *testing.T, m *Machine, want ...uint64) {
	t.Helper()
	if cells := m.Cells(); !slices.Equal(cells, want) {
		t.Errorf("Cells: %v, not %v", cells, want)
	}
}

func hasOutput(t *testing.T, m *Machine, k int, want ...uint64) {
	t.Helper()
	if out := m.Output(k); !slices.Equal(out, want) {
		t.Errorf("Output(%d): %v, not %v", k, out, want)
	}
}

func isDone(t *testing.T, m *Machine, k int, want bool) {
	t.Helper()
	if done := m.Done(k); done != want {
		t.Errorf("Done(%d): %v", k, done)
	}
}

// over holds that a thread has nothing more to do, by all that can be asked of it, and that a Step of it changes nothing.
func over(t *testing.T, m *Machine, k int) {
	t.Helper()
	isDone(t, m, k, true)
	if s, ok := m.Next(k); ok || !reflect.DeepEqual(s, api.Stmt{}) {
		t.Errorf("Next(%d): %+v, %v", k, s, ok)
	}
	still(t, m, k)
	isDone(t, m, k, true)
}

// still holds that a thread does not step, and that nothing changes by that.
func still(t *testing.T, m *Machine, k int) {
	t.Helper()
	cells, out := m.Cells(), m.Output(k)
	next, ok := m.Next(k)
	if m.Step(k) {
		t.Errorf("Step(%d): true", k)
	}
	hasCells(t, m, cells...)
	hasOutput(t, m, k, out...)
	if now, is := m.Next(k); is != ok || !reflect.DeepEqual(now, next) {
		t.Errorf("Next(%d): %+v, then %+v", k, next, now)
	}
}

// nextIs holds that a thread's next statement is that which begins so in the text.
func nextIs(t *testing.T, m *Machine, text string, k int, want string) {
	t.Helper()
	s, ok := m.Next(k)
	if !ok || !strings.HasPrefix(text[s.At:], want) {
		t.Fatalf("%q: Next(%d): %+v, %v, not %q", text, k, s, ok, want)
	}
	isDone(t, m, k, false)
}

// walk lets a thread do statements, each of which it must find ahead of its Step.
func walk(t *testing.T, m *Machine, text string, k int, wants ...string) {
	t.Helper()
	for _, want := range wants {
		nextIs(t, m, text, k, want)
		if !m.Step(k) {
			t.Fatalf("%q: Step(%d) of %q: false", text, k, want)
		}
	}
}

// path holds that the one thread of a text does these statements, and none besides.
func path(t *testing.T, text string, wants ...string) *Machine {
	t.Helper()
	m := machine(t, text)
	walk(t, m, text, 0, wants...)
	over(t, m, 0)
	return m
}

func TestOfCells(t *testing.T) {
	const text = "public a; secret k[3]; lock l; public b by l; secret c[1]; thread { }"
	for _, x := range []struct{ cells, want []uint64 }{
		{nil, []uint64{0, 0, 0, 0, 0, 0, 0}},
		{[]uint64{}, []uint64{0, 0, 0, 0, 0, 0, 0}},
		{[]uint64{9}, []uint64{9, 0, 0, 0, 0, 0, 0}},
		{[]uint64{9, 8, 7}, []uint64{9, 8, 7, 0, 0, 0, 0}},
		{[]uint64{9, 8, 7, 6}, []uint64{9, 8, 7, 6, 0, 0, 0}},
		{[]uint64{9, 8, 7, 6, 5}, []uint64{9, 8, 7, 6, 0, 0, 0}},
		{[]uint64{9, 8, 7, 6, 5, 4}, []uint64{9, 8, 7, 6, 0, 4, 0}},
		{[]uint64{9, 8, 7, 6, 5, 4, 3}, []uint64{9, 8, 7, 6, 0, 4, 3}},
		{[]uint64{9, 8, 7, 6, 5, 4, 3, 2}, []uint64{9, 8, 7, 6, 0, 4, 3}},
		{slices.Repeat([]uint64{math.MaxUint64}, 500), []uint64{math.MaxUint64, math.MaxUint64, math.MaxUint64, math.MaxUint64, 0, math.MaxUint64, math.MaxUint64}},
	} {
		hasCells(t, machine(t, text, x.cells...), x.want...)
	}
}

func TestOfLocks(t *testing.T) {
	hasCells(t, machine(t, "lock l; thread { }", 1), 0)
	hasCells(t, machine(t, "lock l; lock m; public a; lock n; thread { }", 1, 2, 3, 4), 0, 0, 3, 0)
	hasCells(t, machine(t, "public a[2]; lock l; public b[2]; lock m; thread { }", 1, 2, 3, 4, 5, 6, 7), 1, 2, 0, 4, 5, 0)
	// A lock has one cell, whatever its Size.
	p := api.Program{Decls: []api.Decl{{Name: "l", Lock: true, Size: 3}, {Name: "a"}, {Name: "m", Lock: true, Size: -1}, {Name: "b", Size: -4}}}
	hasCells(t, Of(p, []uint64{1, 2, 3, 4, 5}), 0, 2, 0, 4)
	// A lock that is free is taken, whatever was handed in.
	m := machine(t, "lock l; thread { take l; }", 1)
	if !m.Step(0) {
		t.Error("the lock is not free")
	}
	hasCells(t, m, 1)
}

func TestOfNothing(t *testing.T) {
	for _, p := range []api.Program{{}, {Decls: []api.Decl{}, Threads: [][]api.Stmt{}}} {
		m := Of(p, []uint64{1, 2})
		hasCells(t, m)
		for _, k := range []int{0, 1, -1, math.MaxInt64, math.MinInt64} {
			over(t, m, k)
			hasOutput(t, m, k)
		}
	}
}

// Of threads that there are not there is nothing to tell, and they have nothing to do.
func TestNoSuchThread(t *testing.T) {
	const text = "public a; thread { a = 1; output a; } thread { a = 2; output a; output 3; }"
	m := machine(t, text)
	for range 6 {
		for _, k := range []int{-1, -2, 2, 3, 16, -16, 1 << 32, -1 << 32, math.MaxInt64, math.MinInt64} {
			over(t, m, k)
			hasOutput(t, m, k)
		}
		m.Step(1)
	}
	hasCells(t, m, 2)
	isDone(t, m, 0, false)
	isDone(t, m, 1, true)
}

func TestThreadsWithoutStatements(t *testing.T) {
	const text = "public a; thread { } thread { a = 7; } thread { }"
	m := machine(t, text)
	over(t, m, 0)
	over(t, m, 2)
	walk(t, m, text, 1, "a = 7;")
	for k := range 3 {
		over(t, m, k)
	}
	hasCells(t, m, 7)
	m = Of(api.Program{Threads: [][]api.Stmt{nil, {}, {{Kind: api.Fence}}}}, nil)
	over(t, m, 0)
	over(t, m, 1)
	isDone(t, m, 2, false)
}

// Next is the statement as it was read, ahead of its Step, behind it, and however often it is asked.
func TestNext(t *testing.T) {
	p := taken(t, "lock l; public a; public q[4]; thread { local x = a + 1; if (x < 3) { q[x & 3] = ~x; } else { } loop i 2 { add a pick(i, 1, 2); } take l; give l; fence; output q[1]; }")
	m := Of(p, nil)
	ss := p.Threads[0]
	order := []api.Stmt{ss[0], ss[1], ss[1].Body[0], ss[2], ss[2].Body[0], ss[2].Body[0], ss[3], ss[4], ss[5], ss[6]}
	for i, want := range order {
		for range 3 {
			if s, ok := m.Next(0); !ok || !reflect.DeepEqual(s, want) {
				t.Fatalf("%d: Next: %+v, %v, not %+v", i, s, ok, want)
			}
		}
		if !m.Step(0) {
			t.Fatal(i, "does not step")
		}
	}
	over(t, m, 0)
	hasCells(t, m, 0, 3, 0, math.MaxUint64-1, 0, 0)
}

// Threads stand where they stand, whatever others do.
func TestNextOfEach(t *testing.T) {
	const text = "public a; public b; thread { a = 1; a = 2; a = 3; } thread { if (b) { b = 8; } b = 9; } thread { loop i 2 { fence; } }"
	m := machine(t, text)
	walk(t, m, text, 1, "if")
	walk(t, m, text, 2, "loop", "fence")
	walk(t, m, text, 0, "a = 1;")
	nextIs(t, m, text, 0, "a = 2;")
	nextIs(t, m, text, 1, "b = 9;")
	walk(t, m, text, 2, "fence")
	over(t, m, 2)
	walk(t, m, text, 0, "a = 2;")
	hasCells(t, m, 2, 0)
	walk(t, m, text, 1, "b = 9;")
	over(t, m, 1)
	walk(t, m, text, 0, "a = 3;")
	over(t, m, 0)
	hasCells(t, m, 3, 9)
}

const whole = "lock l; public a; secret k[3]; thread { local x = a + 2 * 3; if (x < 100) { k[1] = pick(x, ~a, k[0]); loop i 2 { k[i + 1] = k[i] + 1; output i; } } else { a = 5; } take l; a = x; give l; } thread { add a 4; fence; output a; }"

// ruin writes over all that can be reached of statements.
func ruin(ss []api.Stmt) {
	for i := range ss {
		ruinExprs(ss[i].Exprs)
		ruin(ss[i].Body)
		ruin(ss[i].Else)
		ss[i] = api.Stmt{Kind: api.Output, Exprs: []api.Expr{{Value: 99}}, At: 1}
	}
}

func ruinExprs(es []api.Expr) {
	for i := range es {
		ruinExprs(es[i].Kids)
		es[i] = api.Expr{Kind: api.Literal, Value: 77, At: 2}
	}
}

// What was handed in is not changed, and may be changed by others behind: whichever way an If goes.
func TestKeepsNothing(t *testing.T) {
	for _, a := range []uint64{4, 200} {
		p, cells := taken(t, whole), []uint64{3, a, 5, 6, 7, 8}
		m, plain := Of(p, cells), Of(taken(t, whole), []uint64{3, a, 5, 6, 7})
		if !reflect.DeepEqual(p, taken(t, whole)) || !slices.Equal(cells, []uint64{3, a, 5, 6, 7, 8}) {
			t.Error("the program, or the cells, are others:", p, cells)
		}
		m.Step(0)
		plain.Step(0)
		for i := range cells {
			cells[i] = 55
		}
		for i := range p.Decls {
			p.Decls[i] = api.Decl{Name: "other", Size: 9}
		}
		for i, ss := range p.Threads {
			ruin(ss)
			p.Threads[i] = nil
		}
		picks := []int{1, 0, 0, 1}
		if !m.Run(picks) || !plain.Run(picks) || !slices.Equal(picks, []int{1, 0, 0, 1}) {
			t.Error("not done, or other picks:", picks)
		}
		hasCells(t, m, plain.Cells()...)
		hasOutput(t, m, 0, plain.Output(0)...)
		hasOutput(t, m, 1, plain.Output(1)...)
	}
}

// A run of a machine whose program is asked for again and again leaves that program as it is.
func TestRunLeavesProgram(t *testing.T) {
	p := taken(t, whole)
	for range 3 {
		m := Of(p, []uint64{0, 1})
		m.Run([]int{0, 1, 0, 1})
		hasCells(t, m, 0, 7, 0, 1, 2)
		hasOutput(t, m, 0, 0, 1)
	}
	if !reflect.DeepEqual(p, taken(t, whole)) {
		t.Error("the program is another one")
	}
}

// What is answered is new memory: writing into it changes no machine.
func TestAnswersAreNew(t *testing.T) {
	for _, a := range []uint64{9, 200} {
		m, plain := machine(t, whole, 0, a), machine(t, whole, 0, a)
		for range 40 {
			for k := range 2 {
				ruinAnswers(m, k)
				if m.Step(k) != plain.Step(k) {
					t.Fatal("Step")
				}
				hasCells(t, m, plain.Cells()...)
				hasOutput(t, m, k, plain.Output(k)...)
			}
		}
		over(t, m, 0)
		over(t, m, 1)
	}
}

func ruinAnswers(m *Machine, k int) {
	cells, out := m.Cells(), m.Output(k)
	for _, list := range [][]uint64{cells, out, cells[:cap(cells)], out[:cap(out)]} {
		for i := range list {
			list[i] = 66
		}
	}
	if s, ok := m.Next(k); ok {
		ruin([]api.Stmt{s})
	}
}

// What was answered once stays, whatever the machine does.
func TestAnswersStay(t *testing.T) {
	m := machine(t, "public a; thread { a = 1; output 1; a = 2; output 2; a = 3; output 3; }", 7)
	start := m.Cells()
	m.Step(0)
	m.Step(0)
	cells, out := m.Cells(), m.Output(0)
	next, _ := m.Next(0)
	m.Run(nil)
	if !slices.Equal(start, []uint64{7}) || !slices.Equal(cells, []uint64{1}) || !slices.Equal(out, []uint64{1}) || next.Exprs[0].Value != 2 {
		t.Error(start, cells, out, next)
	}
	hasCells(t, m, 3)
	hasOutput(t, m, 0, 1, 2, 3)
}

// Machines of one program know nothing of each other.
func TestMachinesApart(t *testing.T) {
	p := taken(t, whole)
	one, two := Of(p, nil), Of(p, []uint64{0, 90})
	walk(t, one, whole, 0, "local x", "if")
	nextIs(t, two, whole, 0, "local x")
	walk(t, two, whole, 0, "local x", "if", "k[1]")
	nextIs(t, one, whole, 0, "k[1]")
	one.Run(nil)
	hasCells(t, two, 0, 90, 0, math.MaxUint64-90, 0)
	hasOutput(t, two, 0)
	hasOutput(t, one, 0, 0, 1)
	two.Run(nil)
	if slices.Equal(one.Cells(), two.Cells()) {
		t.Error("one machine's cells are another one's")
	}
}
