package source

import (
	"math"
	"reflect"
	"slices"
	"strconv"
	"strings"
	"testing"

	"tautochrone/api"
)

func TestStepLocal(t *testing.T) {
	m := path(t, "public a; secret k; thread { local x = 3; a = x; local y = k + 1; k = y; }", "local x", "a = x", "local y", "k = y")
	hasCells(t, m, 3, 1)
	// Neither is a local a cell, nor another thread's.
	const text = "public a; thread { local x = 1; fence; output x; } thread { local x = 2; output x; }"
	m = machine(t, text, 9)
	walk(t, m, text, 0, "local")
	walk(t, m, text, 1, "local")
	hasCells(t, m, 9)
	walk(t, m, text, 0, "fence", "output")
	walk(t, m, text, 1, "output")
	hasOutput(t, m, 0, 1)
	hasOutput(t, m, 1, 2)
}

// A local is no more behind its Body, its Else and its thread: its name may be another local's, a counter's, and none knows of the other.
func TestLocalsEnd(t *testing.T) {
	for _, x := range []struct {
		text string
		want []uint64
	}{
		{"if (1) { local x = 1; output x; } else { local x = 2; output x; } local x = 3; output x;", []uint64{1, 3}},
		{"if (0) { local x = 1; output x; } else { local x = 2; output x; } local x = 3; output x;", []uint64{2, 3}},
		{"if (0) { local x = 1; output x; } local x = 3; output x; x = 4; output x;", []uint64{3, 4}},
		{"loop x 2 { output x; } local x = 7; output x;", []uint64{0, 1, 7}},
		{"loop x 2 { } loop x 3 { output x; }", []uint64{0, 1, 2}},
		{"loop i 3 { local x = i * 2; x = x + 1; output x; }", []uint64{1, 3, 5}},
		{"loop i 2 { local x = 5; if (i) { local y = x; x = y + 1; } else { local y = 8; output y; } output x; }", []uint64{8, 5, 6}},
		{"loop i 2 { if (1) { local x = i; output x; } if (1) { local x = i + 4; output x; } local x = 9; output x; }", []uint64{0, 4, 9, 1, 5, 9}},
		{"loop i 2 { loop x 2 { output x; } local x = 5; output x + i; }", []uint64{0, 1, 5, 0, 1, 6}},
		{"local x = 1; if (1) { local y = 2; if (1) { local z = 3; } local z = 4; output x + y + z; } local z = 5; local y = 6; output x + y + z;", []uint64{7, 12}},
		{"local i = 5; loop j 2 { i = i + j; } output i;", []uint64{6}},
	} {
		m := machine(t, "thread { "+x.text+" } thread { local x = 77; output x; }")
		if !m.Run(nil) {
			t.Error("not done")
		}
		hasOutput(t, m, 0, x.want...)
		hasOutput(t, m, 1, 77)
		if t.Failed() {
			t.Fatal(x.text)
		}
	}
}

// A local that a Body has is not another one's that is around it, which lives on.
func TestOuterLocalsStay(t *testing.T) {
	m := path(t, "thread { local x = 1; if (x) { local y = 10; x = x + y; loop i 2 { local z = 100; x = x + z; } y = x; } x = x + 1000; output x; }", "local x", "if", "local y", "x = x + y", "loop", "local z", "x = x + z", "local z", "x = x + z", "y = x", "x = x + 1000", "output")
	hasOutput(t, m, 0, 1211)
}

func TestStepAssign(t *testing.T) {
	const text = "public a; public b; lock l; secret c; thread { local x = 1; a = 5; b = a; x = b + 1; c = x; a = a * 2; }"
	m := machine(t, text, 9, 8, 7, 4)
	for i, want := range [][]uint64{{9, 8, 0, 4}, {5, 8, 0, 4}, {5, 5, 0, 4}, {5, 5, 0, 4}, {5, 5, 0, 6}, {10, 5, 0, 6}} {
		if !m.Step(0) {
			t.Error("does not step")
		}
		hasCells(t, m, want...)
		if t.Failed() {
			t.Fatal(i)
		}
	}
	over(t, m, 0)
}

func TestStepStore(t *testing.T) {
	const text = "public a; secret k[3]; public b; thread { k[0] = 1; k[2] = k[0] + 1; k[a & 1] = 7; k[2] = k[2]; loop i 3 { k[i] = i; } }"
	m := machine(t, text, 1, 20, 21, 22, 9)
	for i, want := range [][]uint64{{1, 1, 21, 22, 9}, {1, 1, 21, 2, 9}, {1, 1, 7, 2, 9}, {1, 1, 7, 2, 9}, {1, 1, 7, 2, 9}, {1, 0, 7, 2, 9}, {1, 0, 1, 2, 9}, {1, 0, 1, 2, 9}} {
		m.Step(0)
		hasCells(t, m, want...)
		if t.Failed() {
			t.Fatal(i)
		}
	}
	over(t, m, 0)
	// The place, and the value, are those of what was there ahead.
	m = machine(t, "public q[4]; thread { q[q[1] & 3] = q[1] + q[2]; q[q[3] & 3] = q[q[3] & 3] * 2; }", 1, 3, 5, 2)
	m.Step(0)
	hasCells(t, m, 1, 3, 5, 8)
	m.Step(0)
	hasCells(t, m, 2, 3, 5, 8)
}

func TestStepIf(t *testing.T) {
	const ways = "public a; thread { if (a) { output 1; output 2; } else { output 3; output 4; } output 5; }"
	for _, x := range []struct {
		a    uint64
		want []string
	}{
		{0, []string{"if", "output 3", "output 4", "output 5"}}, {1, []string{"if", "output 1", "output 2", "output 5"}},
		{2, []string{"if", "output 1", "output 2", "output 5"}}, {1 << 63, []string{"if", "output 1", "output 2", "output 5"}}, {math.MaxUint64, []string{"if", "output 1", "output 2", "output 5"}}, {1 << 32, []string{"if", "output 1", "output 2", "output 5"}},
	} {
		m := machine(t, ways, x.a)
		walk(t, m, ways, 0, x.want...)
		over(t, m, 0)
	}
	path(t, "thread { if (1) { fence; } output 5; }", "if", "fence", "output")
	path(t, "thread { if (0) { fence; } output 5; }", "if", "output")
	path(t, "thread { if (1) { } output 5; }", "if", "output")
	path(t, "thread { if (0) { } output 5; }", "if", "output")
	path(t, "thread { if (1) { } else { fence; } output 5; }", "if", "output")
	path(t, "thread { if (0) { } else { fence; } output 5; }", "if", "fence", "output")
	path(t, "thread { if (0) { fence; } else { } output 5; }", "if", "output")
}

func TestIfInIf(t *testing.T) {
	const text = "public a; public b; thread { if (a) { if (b) { output 1; } else { output 2; } output 3; } else { output 4; if (b) { output 5; } } output 6; }"
	for _, x := range []struct {
		a, b uint64
		want []string
	}{
		{1, 1, []string{"if (a)", "if (b) { output 1", "output 1", "output 3", "output 6"}},
		{1, 0, []string{"if (a)", "if (b) { output 1", "output 2", "output 3", "output 6"}},
		{0, 1, []string{"if (a)", "output 4", "if (b) { output 5", "output 5", "output 6"}},
		{0, 0, []string{"if (a)", "output 4", "if (b) { output 5", "output 6"}},
	} {
		m := machine(t, text, x.a, x.b)
		walk(t, m, text, 0, x.want...)
		over(t, m, 0)
	}
	path(t, "thread { if (1) { if (1) { if (0) { } else { if (1) { fence; } } } } }", "if (1) { if (1) { if (0)", "if (1) { if (0)", "if (0)", "if (1) { fence", "fence")
}

// The value is asked for once, when the If is done.
func TestIfAsksOnce(t *testing.T) {
	m := path(t, "public a; thread { if (a == 0) { a = 1; a = 2; } else { a = 3; } if (a) { a = 0; a = a + 4; } else { a = 9; } }", "if", "a = 1", "a = 2", "if", "a = 0", "a = a + 4")
	hasCells(t, m, 4)
	const text = "public a; thread { if (a) { output 1; } else { output 2; } } thread { a = 1; }"
	m = machine(t, text)
	walk(t, m, text, 0, "if")
	walk(t, m, text, 1, "a = 1")
	walk(t, m, text, 0, "output 2")
}

func TestStepLoop(t *testing.T) {
	m := path(t, "thread { loop i 3 { output i; } output 9; }", "loop", "output i", "output i", "output i", "output 9")
	hasOutput(t, m, 0, 0, 1, 2, 9)
	m = path(t, "thread { loop i 1 { output i; } }", "loop", "output i")
	hasOutput(t, m, 0, 0)
	m = path(t, "thread { loop i 2 { fence; output i; } loop i 2 { output i + 5; } }", "loop", "fence", "output i", "fence", "output i", "loop", "output i + 5", "output i + 5")
	hasOutput(t, m, 0, 0, 1, 5, 6)
	for _, n := range []int{1, 2, 3, 10, 255, api.MaxLoop} {
		text := "public a; thread { loop i " + strconv.Itoa(n) + " { a = a + i + 1; output i; } output a; }"
		m := path(t, text, slices.Concat([]string{"loop"}, slices.Repeat([]string{"a = ", "output i"}, n), []string{"output a"})...)
		var want []uint64
		for i := range n {
			want = append(want, uint64(i))
		}
		hasOutput(t, m, 0, append(want, uint64(n*(n+1)/2))...)
	}
}

func TestLoopEmpty(t *testing.T) {
	for _, n := range []string{"1", "2", "256"} {
		path(t, "thread { loop i "+n+" { } }", "loop")
		path(t, "thread { fence; loop i "+n+" { } output 1; }", "fence", "loop", "output")
		path(t, "thread { loop i 2 { loop j "+n+" { } } output 1; }", "loop i", "loop j", "loop j", "output")
		path(t, "thread { loop i 2 { loop j "+n+" { } loop j "+n+" { } fence; } }", "loop i", "loop j", "loop j", "fence", "loop j", "loop j", "fence")
		path(t, "thread { if (1) { loop j "+n+" { } } else { fence; } }", "if", "loop")
	}
}

func TestLoopInLoop(t *testing.T) {
	m := path(t, "thread { loop i 2 { output i; loop j 3 { output i * 10 + j; } output 99; } }",
		"loop i", "output i;", "loop j", "output i *", "output i *", "output i *", "output 99", "output i;", "loop j", "output i *", "output i *", "output i *", "output 99")
	hasOutput(t, m, 0, 0, 0, 1, 2, 99, 1, 10, 11, 12, 99)
	m = path(t, "thread { loop i 2 { loop j 2 { loop k 2 { output i * 4 + j * 2 + k; } } } }",
		"loop i", "loop j", "loop k", "output", "output", "loop k", "output", "output", "loop j", "loop k", "output", "output", "loop k", "output", "output")
	hasOutput(t, m, 0, 0, 1, 2, 3, 4, 5, 6, 7)
	m = path(t, "thread { loop i 3 { if (i == 1) { loop j 2 { output j; } } else { output i + 7; } } }", "loop", "if", "output i", "if", "loop j", "output j", "output j", "if", "output i")
	hasOutput(t, m, 0, 7, 0, 1, 9)
}

// A round's locals are no more when the next one begins, nor when none does.
func TestLoopLocals(t *testing.T) {
	m := path(t, "thread { local x = 1; loop i 2 { local y = x + i; x = y * 2; output y; } local y = 5; output x + y; }", "local x", "loop", "local y", "x = ", "output y", "local y", "x = ", "output y", "local y", "output x")
	hasOutput(t, m, 0, 1, 3, 11)
	// Rounds without an end of them leave nothing behind.
	const text = "thread { loop i 256 { loop j 256 { local x = i; local y = j; x = y; } } }"
	m = machine(t, text)
	if !m.Run(nil) || len(m.threads[0].names)+len(m.threads[0].locals)+len(m.threads[0].frames) != 0 {
		t.Error("something is left")
	}
}

func TestStepTake(t *testing.T) {
	const text = "lock l; lock m; public a; thread { take l; a = 1; give l; } thread { take l; a = 2; give l; } thread { take m; give m; }"
	m := machine(t, text)
	walk(t, m, text, 0, "take l")
	hasCells(t, m, 1, 0, 0)
	for range 3 {
		nextIs(t, m, text, 1, "take l")
		still(t, m, 1)
	}
	walk(t, m, text, 2, "take m")
	hasCells(t, m, 1, 1, 0)
	walk(t, m, text, 0, "a = 1")
	still(t, m, 1)
	walk(t, m, text, 0, "give l")
	over(t, m, 0)
	hasCells(t, m, 0, 1, 1)
	walk(t, m, text, 1, "take l", "a = 2")
	hasCells(t, m, 1, 1, 2)
	walk(t, m, text, 2, "give m")
	walk(t, m, text, 1, "give l")
	hasCells(t, m, 0, 0, 2)
	over(t, m, 1)
	over(t, m, 2)
}

// A thread that waits waits wherever its Take stands, and for itself as well.
func TestTakeWaits(t *testing.T) {
	for _, x := range []string{"take l;", "if (1) { take l; }", "if (0) { } else { take l; }", "loop i 2 { take l; }", "local x = 1; loop i 1 { if (x) { take l; output 9; } }"} {
		text := "lock l; thread { take l; } thread { fence; " + x + " fence; }"
		m := machine(t, text)
		m.Step(0)
		for range 5 {
			m.Step(1)
		}
		nextIs(t, m, text, 1, "take l")
		still(t, m, 1)
		hasOutput(t, m, 1)
		hasCells(t, m, 1)
	}
	const twice = "lock l; public a; thread { take l; a = 1; take l; a = 2; } thread { fence; give l; }"
	m := machine(t, twice)
	walk(t, m, twice, 0, "take", "a = 1")
	still(t, m, 0)
	// Who gives is not asked for.
	walk(t, m, twice, 1, "fence", "give")
	walk(t, m, twice, 0, "take", "a = 2")
	hasCells(t, m, 1, 2)
}

func TestStepGive(t *testing.T) {
	const text = "public a; lock l; thread { give l; take l; give l; give l; take l; }"
	m := machine(t, text, 3)
	for _, want := range []uint64{0, 1, 0, 0, 1} {
		m.Step(0)
		hasCells(t, m, 3, want)
	}
	over(t, m, 0)
}

func TestStepBump(t *testing.T) {
	const text = "public a; secret b; thread { local x = 3; add a 1; add a x; add a a; add b a; add b ~0; add a 0; } thread { add a 100; }"
	m := machine(t, text, 10, math.MaxUint64)
	walk(t, m, text, 0, "local")
	for i, want := range [][]uint64{{11, math.MaxUint64}, {14, math.MaxUint64}, {28, math.MaxUint64}, {28, 27}, {28, 26}, {28, 26}} {
		m.Step(0)
		hasCells(t, m, want...)
		if t.Failed() {
			t.Fatal(i)
		}
	}
	over(t, m, 0)
	walk(t, m, text, 1, "add a 100")
	hasCells(t, m, 128, 26)
}

func TestStepOutput(t *testing.T) {
	const text = "public a; thread { output 1; output a; output 0; output 0; } thread { a = 6; output a + 1; } thread { fence; }"
	m := machine(t, text, 5)
	hasOutput(t, m, 0)
	walk(t, m, text, 0, "output 1", "output a")
	hasOutput(t, m, 0, 1, 5)
	hasOutput(t, m, 1)
	walk(t, m, text, 1, "a = 6", "output a + 1")
	hasOutput(t, m, 0, 1, 5)
	hasOutput(t, m, 1, 7)
	walk(t, m, text, 2, "fence")
	walk(t, m, text, 0, "output 0", "output 0")
	over(t, m, 0)
	hasOutput(t, m, 0, 1, 5, 0, 0)
	hasOutput(t, m, 1, 7)
	hasOutput(t, m, 2)
	hasCells(t, m, 6)
}

func TestStepFence(t *testing.T) {
	const text = "lock l; public a; thread { local x = 4; fence; fence; a = x; }"
	m := machine(t, text, 1, 2)
	walk(t, m, text, 0, "local", "fence", "fence")
	hasCells(t, m, 0, 2)
	hasOutput(t, m, 0)
	walk(t, m, text, 0, "a = x")
	hasCells(t, m, 0, 4)
}

// A statement is seen by all at once: none sees half of it, and none sees it late.
func TestSeenAtOnce(t *testing.T) {
	const text = "public a; public b; thread { a = 1; output b; } thread { b = 1; output a; }"
	for mask := range 16 {
		m := machine(t, text)
		for i := range 4 {
			m.Step(mask >> i & 1)
		}
		m.Run(nil)
		if m.Output(0)[0] == 0 && m.Output(1)[0] == 0 {
			t.Errorf("%04b: both read 0", mask)
		}
	}
}

// A thread is done behind its last statement, wherever that stands, with no Step more.
func TestDoneBehindLast(t *testing.T) {
	path(t, "thread { fence; }", "fence")
	path(t, "thread { if (1) { fence; } }", "if", "fence")
	path(t, "thread { if (0) { fence; } }", "if")
	path(t, "thread { if (1) { } }", "if")
	path(t, "thread { if (0) { } else { fence; output 1; } }", "if", "fence", "output")
	path(t, "thread { if (0) { if (0) { } } else { if (1) { if (1) { fence; } } } }", "if (0)", "if (1)", "if (1)", "fence")
	path(t, "thread { loop i 2 { fence; } }", "loop", "fence", "fence")
	path(t, "thread { loop i 2 { if (i) { fence; } else { output 1; } } }", "loop", "if", "output", "if", "fence")
	path(t, "thread { loop i 2 { if (i) { } else { output 1; } } }", "loop", "if", "output", "if")
	path(t, "thread { loop i 2 { loop j 2 { fence; } } }", "loop i", "loop j", "fence", "fence", "loop j", "fence", "fence")
	path(t, "thread { if (1) { loop i 1 { if (1) { loop j 1 { local x = 1; } } } } }", "if", "loop i", "if", "loop j", "local")
	path(t, "thread { loop i 1 { } }", "loop")
	path(t, "lock l; thread { take l; if (1) { give l; } }", "take", "if", "give")
	path(t, "lock l; thread { if (1) { take l; } }", "if", "take")
}

// Blocks in one another as deep as they may be, and deeper; threads as long as they may be, and as many.
func TestStepDeep(t *testing.T) {
	const deep = 1 << 14
	under := []api.Stmt{{Kind: api.Output, Exprs: []api.Expr{{Kind: api.Name, Name: "a"}}}}
	for i := range deep {
		one, none := api.Expr{Value: 1}, api.Expr{}
		switch i % 3 {
		case 0:
			under = []api.Stmt{{Kind: api.If, Exprs: []api.Expr{one}, Body: under}}
		case 1:
			under = []api.Stmt{{Kind: api.If, Exprs: []api.Expr{none}, Else: under}}
		default:
			under = []api.Stmt{{Kind: api.Loop, Name: "i" + strconv.Itoa(i), Count: 1, Body: under}}
		}
	}
	m := Of(api.Program{Decls: []api.Decl{{Name: "a"}}, Threads: [][]api.Stmt{under}}, []uint64{8})
	for i := range deep {
		if !m.Step(0) || m.Done(0) {
			t.Fatal(i)
		}
	}
	hasOutput(t, m, 0)
	m.Step(0)
	over(t, m, 0)
	hasOutput(t, m, 0, 8)
}

// Thousands of locals, and as many rounds.
func TestManyLocals(t *testing.T) {
	var text strings.Builder
	text.WriteString("thread { local x0 = 1; ")
	for i := 1; i < 2000; i++ {
		text.WriteString("local x" + strconv.Itoa(i) + " = x" + strconv.Itoa(i-1) + " + 1; ")
	}
	text.WriteString("loop i 256 { loop j 100 { x0 = x1999 + x0; } } output x0; }")
	m := machine(t, text.String())
	if !m.Run(nil) {
		t.Error("not done")
	}
	hasOutput(t, m, 0, 1+256*100*2000)
}

// Of programs that flow does not take calls end, and do not panic.
func TestOthersEnd(t *testing.T) {
	for _, text := range []string{
		"loop i 3 { i = 0; output i; }", "loop i 3 { i = 0; } output i;", "loop i 256 { i = i - 1; }", "loop i 2 { add i 5; }", "loop i 3 { loop i 3 { i = 0; } i = 0; }", "loop i 2 { local i = 0; i = 0; }",
		"local x = 1; local x = 2; if (1) { local x = 3; local x = 4; } x = x + 1; output x;", "local a = 1; a = 2; output a; if (1) { local l = 1; take l; give l; }", "loop a 3 { a = 0; } loop q 2 { q[0] = 1; } loop l 2 { take l; give l; }",
		"take a; take none; give none; give q; take q; take q;", "l = 1; take l;", "take x; local x = 1; take x;", "q = 1; a[0] = 2; none = 3; none[1] = 4; add none 5; add q 6; add l 7;", "output none + none[3] + a[2] + q;", "q[9] = 1; q[~0] = 2; output q[9]; output q[~0];", "if (none) { x = 1; } else { x = 2; } output x;", "if (k) { output k; take l; }",
	} {
		p := program(t, "lock l; public a; public q[2]; secret k; thread { "+text+" } thread { "+text+" fence; }")
		m, again := Of(p, []uint64{1, 2, 3}), Of(p, []uint64{1, 2, 3})
		if m.Run([]int{0, 1, 1}) != again.Run([]int{0, 1, 1}) {
			t.Error(text)
		}
		hasCells(t, m, again.Cells()...)
		hasOutput(t, m, 0, again.Output(0)...)
	}
	for _, head := range []string{"public a; public a[64]; public a[3];", "lock a; public a[9]; lock a;", "public a[2] by none; lock l; public l;", "public a; lock a;"} {
		m := Of(program(t, head+" thread { a = 1; a[5] = 2; take a; output a[63]; }"), slices.Repeat([]uint64{4}, 80))
		m.Run(nil)
	}
}

// Trees without the parts that they should have, or of kinds that there are not, end as well.
func TestTreesThatLack(t *testing.T) {
	var ss []api.Stmt
	for kind := api.StmtKind(-1); kind <= api.Output+2; kind++ {
		ss = append(ss, api.Stmt{Kind: kind}, api.Stmt{Kind: kind, Name: "a", Count: -5, Body: []api.Stmt{{Kind: api.Fence}}, Else: []api.Stmt{{Kind: api.Fence}}})
		for e := api.ExprKind(-1); e <= api.Pick+1; e++ {
			ss = append(ss, api.Stmt{Kind: kind, Name: "q", Count: math.MinInt64, Exprs: []api.Expr{{Kind: e, Name: "q", Op: 77}}}, api.Stmt{Kind: kind, Name: "q", Count: math.MaxInt64, Exprs: []api.Expr{{Kind: e, Kids: []api.Expr{{Kind: e}}}, {Kind: e}}})
		}
	}
	for _, s := range ss {
		p := api.Program{Decls: []api.Decl{{Name: "a"}, {Name: "q", Size: 2}, {Name: "l", Lock: true}}, Threads: [][]api.Stmt{{s, s}, {s}}}
		m := Of(p, []uint64{1})
		if next, ok := m.Next(0); !ok || !reflect.DeepEqual(next, s) {
			t.Errorf("%+v, not %+v", next, s)
		}
		m.Run([]int{1})
	}
}
