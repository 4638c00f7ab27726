package source

import (
	"math"
	"slices"
	"strings"
	"testing"

	"tautochrone/api"
	"tautochrone/cost"
)

func runs(t *testing.T, m *Machine, picks []int, want bool) {
	t.Helper()
	if ok := m.Run(picks); ok != want {
		t.Errorf("Run(%v): %v", picks, ok)
	}
	// All that is left waits.
	for k := range len(m.threads) {
		still(t, m, k)
	}
}

func TestExample(t *testing.T) {
	for _, picks := range [][]int{nil, {}, {0}, {0, 0, 0, 0, 0, 0}, {-3, 8, math.MaxInt64, math.MinInt64}} {
		m := machine(t, "public a; thread { loop i 3 { a = a + i; } }")
		runs(t, m, picks, true)
		hasCells(t, m, 3)
		over(t, m, 0)
	}
}

// The document's first example: whatever key is, door is opened, and right is what it should be.
func TestRunDoor(t *testing.T) {
	for key, right := range map[uint64]uint64{0: 0, 6: 0, 7: 1, 8: 0, 1<<63 + 7: 0} {
		m := machine(t, "secret key; public door; secret right; thread { right = 0; if (key == 7) { right = 1; } door = 1; }", key, 5, 5)
		runs(t, m, nil, true)
		hasCells(t, m, key, 1, right)
	}
}

func TestRunNothing(t *testing.T) {
	for _, picks := range [][]int{nil, {}, {0}, {1, -1, 7}, {math.MinInt64, math.MaxInt64}} {
		runs(t, Of(api.Program{}, nil), picks, true)
		m := Of(api.Program{Decls: []api.Decl{{Name: "a"}}}, []uint64{4})
		runs(t, m, picks, true)
		hasCells(t, m, 4)
		runs(t, machine(t, "thread { }"), picks, true)
		runs(t, machine(t, "thread { } thread { } thread { }"), picks, true)
	}
}

// three are threads that write down who comes when.
const three = "public n; thread { n = n * 10 + 1; n = n * 10 + 1; } thread { n = n * 10 + 2; n = n * 10 + 2; } thread { n = n * 10 + 3; n = n * 10 + 3; }"

func TestRunPicks(t *testing.T) {
	const least, most = math.MinInt64, math.MaxInt64 // which are 1 modulo 3, as is most
	for _, x := range []struct {
		picks []int
		want  uint64
	}{
		{nil, 123123}, {[]int{0}, 112323}, {[]int{1}, 212313}, {[]int{2}, 312312}, {[]int{2, 1, 0}, 321123}, {[]int{2, 2, 1, 1, 0, 0}, 332211}, {[]int{1, 1}, 221313},
		{[]int{3}, 112323}, {[]int{4}, 212313}, {[]int{5}, 312312}, {[]int{300}, 112323}, {[]int{302, 301, 300}, 321123},
		{[]int{-1}, 312312}, {[]int{-2}, 212313}, {[]int{-3}, 112323}, {[]int{-4}, 312312}, {[]int{-1, -1, -2, -2, -3, -3}, 332211}, {[]int{-300}, 112323}, {[]int{-301}, 312312},
		{[]int{most}, 212313}, {[]int{most - 1}, 112323}, {[]int{most - 2}, 312312}, {[]int{least}, 212313}, {[]int{least + 1}, 312312}, {[]int{least + 2}, 112323},
		// Picks of threads that are done do nothing.
		{[]int{0, 0, 0, 0, 0}, 112323}, {[]int{2, 2, 2, -1, 5, 1}, 332121}, {[]int{0, 1, 2, 0, 1, 2, 0, 1, 2, 0}, 123123},
	} {
		m := machine(t, three)
		runs(t, m, x.picks, true)
		hasCells(t, m, x.want)
		if t.Failed() {
			t.Fatal(x.picks)
		}
	}
}

// Behind the picks all threads take turns from the first one on, a Step each, and those that are done, or wait, are passed over.
func TestRunTurns(t *testing.T) {
	m := machine(t, "public n; thread { n = n * 10 + 1; } thread { n = n * 10 + 2; n = n * 10 + 2; n = n * 10 + 2; } thread { n = n * 10 + 3; n = n * 10 + 3; }")
	runs(t, m, nil, true)
	hasCells(t, m, 123232)
	m = machine(t, "public n; lock l; thread { fence; take l; n = n * 10 + 1; give l; } thread { take l; n = n * 10 + 2; n = n * 10 + 2; give l; } thread { n = n * 10 + 3; n = n * 10 + 3; n = n * 10 + 3; n = n * 10 + 3; n = n * 10 + 3; n = n * 10 + 3; }")
	runs(t, m, nil, true)
	// Turn by turn: fence, take, 3; 2, 3; 2, 3; give, 3; take, 3; 1, 3; give.
	hasCells(t, m, 323233313, 0)
}

// A run goes on from where its machine stands.
func TestRunGoesOn(t *testing.T) {
	m := machine(t, three)
	m.Step(2)
	m.Step(1)
	runs(t, m, []int{1}, true)
	hasCells(t, m, 322131)
	runs(t, m, []int{0, 1, 2}, true)
	hasCells(t, m, 322131)
	const text = "lock l; public a; thread { take l; a = 1; take l; a = 2; }"
	m = machine(t, text)
	runs(t, m, nil, false)
	runs(t, m, []int{0, 0}, false)
	nextIs(t, m, text, 0, "take l; a = 2")
	hasCells(t, m, 1, 1)
}

// Threads that wait for one another, or for one that gives nothing back: the run ends, and not all are done.
func TestRunWaits(t *testing.T) {
	const two = "lock l; lock m; public a; thread { take l; take m; add a 1; give m; give l; } thread { take m; take l; add a 10; give l; give m; } thread { add a 100; }"
	for _, x := range []struct {
		picks []int
		ok    bool
		want  []uint64
	}{
		{nil, false, []uint64{1, 1, 100}}, {[]int{0, 1}, false, []uint64{1, 1, 100}}, {[]int{1, 0, 1, 1, 0, 0}, false, []uint64{1, 1, 100}},
		{[]int{0, 0}, true, []uint64{0, 0, 111}}, {[]int{1, 1, 0, 0, 0}, true, []uint64{0, 0, 111}}, {[]int{-3, 3, -1}, true, []uint64{0, 0, 111}},
	} {
		m := machine(t, two)
		runs(t, m, x.picks, x.ok)
		hasCells(t, m, x.want...)
		isDone(t, m, 0, x.ok)
		isDone(t, m, 1, x.ok)
		isDone(t, m, 2, true)
	}
	m := machine(t, "lock l; public a; thread { take l; } thread { take l; a = 1; } thread { a = 2; }")
	runs(t, m, nil, false)
	hasCells(t, m, 1, 2)
	m = machine(t, "lock l; lock m; lock n; thread { take l; take m; } thread { take m; take n; } thread { take n; take l; }")
	runs(t, m, nil, false)
	hasCells(t, m, 1, 1, 1)
	m = machine(t, "lock l; thread { take l; take l; }")
	runs(t, m, []int{0, 0, 0, 0}, false)
}

// Those that wait go on when there is something to take, however many there are.
func TestRunLocksShared(t *testing.T) {
	one := "thread { loop i 20 { take l; local x = n; n = x + 1; give l; } } "
	text := "lock l; public n by l; " + strings.Repeat(one, api.MaxThreads)
	for _, picks := range [][]int{nil, {5, 5, 5, 5, 3, -1, 99}, slices.Repeat([]int{15, 2, 7}, 100)} {
		m := machine(t, text)
		runs(t, m, picks, true)
		hasCells(t, m, 0, 20*api.MaxThreads)
	}
	// Without a lock what is added may be lost; by add it is not.
	m := machine(t, strings.NewReplacer("take l; ", "", "give l; ", "").Replace(text))
	runs(t, m, nil, true)
	hasCells(t, m, 0, 20)
	m = machine(t, "public n; "+strings.Repeat("thread { loop i 20 { add n i; } } ", api.MaxThreads))
	runs(t, m, nil, true)
	hasCells(t, m, 190*api.MaxThreads)
}

// The same picks do the same.
func TestRunTwice(t *testing.T) {
	for first := range 27 {
		picks := []int{first % 3, first / 3 % 3, first / 9}
		one, two := machine(t, three), machine(t, three)
		runs(t, one, picks, true)
		runs(t, two, picks, true)
		hasCells(t, one, two.Cells()...)
	}
}

// Run does what Steps would: its picks', and then those in turn.
func TestRunIsSteps(t *testing.T) {
	for first := range 64 {
		picks := []int{first % 4, first / 4 % 4, first / 16, first % 7}
		run, step := machine(t, three), machine(t, three)
		run.Run(picks)
		for _, k := range picks {
			step.Step(k % 3)
		}
		for i := range 30 {
			step.Step(i % 3)
		}
		hasCells(t, run, step.Cells()...)
	}
}

// steps is how many Steps a thread does alone, till it is done or waits.
func steps(m *Machine, k int) int {
	n := 0
	for m.Step(k) {
		n++
	}
	return n
}

// A thread does as many steps as it costs, or less.
func TestRunCosts(t *testing.T) {
	for _, x := range []struct {
		text string
		want int
	}{
		{"", 0}, {"fence;", 1}, {"local x = 1; x = 2; output x;", 3}, {"if (1) { fence; fence; } else { fence; }", 3}, {"if (0) { fence; fence; } else { fence; }", 2},
		{"loop i 1 { }", 1}, {"loop i 256 { }", 1}, {"loop i 256 { fence; }", 257}, {"loop i 10 { loop j 10 { fence; } fence; }", 1 + 10*12}, {"loop i 256 { loop j 256 { fence; local x = i; } }", 1 + 256*(1+256*2)},
	} {
		p := taken(t, "thread { "+x.text+" }")
		if n := steps(Of(p, nil), 0); n != x.want || n > cost.Block(p.Threads[0]) {
			t.Errorf("%q: %d steps, not %d; of cost %d", x.text, n, x.want, cost.Block(p.Threads[0]))
		}
	}
}
