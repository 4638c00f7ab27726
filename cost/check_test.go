package cost

import (
	"errors"
	"math"
	"reflect"
	"slices"
	"testing"

	"tautochrone/api"
	"tautochrone/parse"
)

func checkTells(t *testing.T, p api.Program, at int) {
	t.Helper()
	err := Check(p)
	if at < 0 {
		if err != nil {
			t.Errorf("Check: %v, not nil", err)
		}
		return
	}
	var f *api.Fault
	if !errors.Is(err, api.ErrLimit) || !errors.As(err, &f) || f.At != at {
		t.Errorf("Check: %v, not ErrLimit at %d", err, at)
	}
}

// thread is statements of costs, the first of which begins at a place, the others behind it.
func thread(at int, costs ...int) []api.Stmt {
	var ss []api.Stmt
	for i, n := range costs {
		s := worth(n)
		s.At = at + i
		ss = append(ss, s)
	}
	return ss
}

func TestCheck(t *testing.T) {
	const just = api.MaxCost
	cheap, full, big := thread(10, 4, 5, 6), thread(20, just-10, 10), thread(30, just-10, 11)
	for _, x := range []struct {
		threads [][]api.Stmt
		at      int
	}{
		{nil, -1}, {[][]api.Stmt{}, -1}, {[][]api.Stmt{nil}, -1}, {[][]api.Stmt{{}}, -1}, {[][]api.Stmt{nil, {}, nil}, -1},
		{[][]api.Stmt{cheap}, -1}, {[][]api.Stmt{full}, -1}, {[][]api.Stmt{full, full, full}, -1}, {[][]api.Stmt{cheap, nil, full, cheap}, -1},
		{[][]api.Stmt{big}, 30}, {[][]api.Stmt{big, cheap}, 30}, {[][]api.Stmt{cheap, big}, 30}, {[][]api.Stmt{nil, big}, 30}, {[][]api.Stmt{full, nil, cheap, big, full}, 30},
		{[][]api.Stmt{big, thread(40, above), thread(5, above)}, 30}, {[][]api.Stmt{full, thread(40, above), big}, 40}, {[][]api.Stmt{full, thread(5, above), big}, 5},
		{[][]api.Stmt{thread(0, above)}, 0}, {[][]api.Stmt{thread(0, 4, above)}, 0}, {[][]api.Stmt{thread(7, just, just, just)}, 7}, {[][]api.Stmt{thread(math.MaxInt64, above)}, math.MaxInt64},
		{[][]api.Stmt{thread(50, just), thread(60, just+1), thread(70, just)}, 60},
		{slices.Repeat([][]api.Stmt{full}, 16), -1}, {append(slices.Repeat([][]api.Stmt{full}, 15), big), 30}, {append(slices.Repeat([][]api.Stmt{nil}, 1000), big), 30},
	} {
		checkTells(t, api.Program{Threads: x.threads}, x.at)
		checkTells(t, api.Program{Decls: []api.Decl{{Name: "a", Size: 64, At: 3}, {Name: "l", Lock: true}}, Threads: x.threads}, x.at)
	}
}

func TestCheckTexts(t *testing.T) {
	const big = "loop i 256 { loop j 256 { fence; fence; fence; } }"
	for _, x := range []struct {
		text string
		at   int
	}{
		{"thread { }", -1}, {"public a; thread { } thread { }", -1}, {"thread { loop i 256 { loop j 256 { fence; fence; } } }", -1},
		{"thread { " + big + " }", 9}, {"thread { } thread { " + big + " }", 20}, {"thread { fence; " + big + " }", 9},
		{"thread { fence; } thread { fence; " + big + " } thread { " + big + " }", 27}, {"thread {\n\n\t" + big + "\n}", 11},
		{"thread { } thread { if (1) { } else { " + big + " } }", 20}, {"thread { loop i 256 { loop j 256 { loop k 256 { } } } }", 9},
	} {
		p, err := parse.Program(x.text)
		if err != nil {
			t.Fatal(x.text, err)
		}
		checkTells(t, p, x.at)
	}
}

// Nothing is changed, and the same is answered again.
func TestLeavesAll(t *testing.T) {
	make := func() api.Program {
		s := loop(3, worth(9), loop(2, worth(5)))
		s.Else, s.Exprs = fences(2), []api.Expr{parts(3), parts(2)}
		return api.Program{Threads: [][]api.Stmt{thread(3, 4, 5, 6), {s, s}, thread(9, above)}}
	}
	p := make()
	first := Check(p)
	cost := Block(p.Threads[1])
	for range 3 {
		if err := Check(p); !reflect.DeepEqual(err, first) || Block(p.Threads[1]) != cost {
			t.Error(err, first)
		}
	}
	if !reflect.DeepEqual(p, make()) {
		t.Error("the program is another one")
	}
}
