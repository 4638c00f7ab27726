package source

import (
	"math/rand/v2"
	"reflect"
	"slices"
	"strconv"
	"testing"

	"tautochrone/api"
	"tautochrone/cost"
	"tautochrone/flow"
	"tautochrone/parse"
	"tautochrone/tree"
)

func oneOf[T any](r *rand.Rand, from ...T) T {
	return from[r.IntN(len(from))]
}

// maker makes programs at random that flow takes. It knows which locals, and which counters, there are where it stands.
type maker struct {
	*rand.Rand
	own    []string
	rounds []string
}

func decls() []api.Decl {
	return []api.Decl{{Name: "a"}, {Name: "q", Size: 4}, {Name: "l", Lock: true}, {Name: "b"}, {Name: "w", Size: 8}, {Name: "m", Lock: true}, {Name: "one", Size: 1}, {Name: "c"}}
}

func (m *maker) stmts(deep int) []api.Stmt {
	own := len(m.own)
	defer func() { m.own = m.own[:own] }()
	var ss []api.Stmt
	for range m.IntN(3 + 2*deep) {
		ss = append(ss, m.stmt(deep))
	}
	return ss
}

// free is a name that no local has there; those that are no more are made again.
func (m *maker) free() string {
	for i := 0; ; i++ {
		name := "x" + strconv.Itoa(i)
		if !slices.Contains(m.own, name) && !slices.Contains(m.rounds, name) {
			return name
		}
	}
}

func (m *maker) stmt(deep int) api.Stmt {
	cell := oneOf(m.Rand, "a", "b", "c")
	n := m.IntN(24)
	switch {
	case deep > 0 && n < 5:
		return api.Stmt{Kind: api.If, Exprs: m.exprs(1), Body: m.stmts(deep - 1), Else: m.stmts(deep - 1)}
	case deep > 0 && n < 8:
		s := api.Stmt{Kind: api.Loop, Name: m.free(), Count: 1 + m.IntN(4)}
		m.rounds = append(m.rounds, s.Name)
		s.Body = m.stmts(deep - 1)
		m.rounds = m.rounds[:len(m.rounds)-1]
		return s
	case n < 12:
		s := api.Stmt{Kind: api.Local, Name: m.free(), Exprs: m.exprs(1)}
		m.own = append(m.own, s.Name)
		return s
	case n < 16:
		return api.Stmt{Kind: api.Assign, Name: oneOf(m.Rand, append(m.own[:len(m.own):len(m.own)], cell)...), Exprs: m.exprs(1)}
	case n < 18:
		name, place := m.cell()
		return api.Stmt{Kind: api.Store, Name: name, Exprs: append([]api.Expr{place}, m.exprs(1)...)}
	case n < 20:
		return api.Stmt{Kind: oneOf(m.Rand, api.Take, api.Give), Name: oneOf(m.Rand, "l", "m")}
	case n < 21:
		return api.Stmt{Kind: api.Bump, Name: cell, Exprs: m.exprs(1)}
	case n < 22:
		return api.Stmt{Kind: api.Fence}
	}
	return api.Stmt{Kind: api.Output, Exprs: m.exprs(1)}
}

func (m *maker) exprs(n int) []api.Expr {
	var es []api.Expr
	for range n {
		es = append(es, m.expr(m.IntN(4)))
	}
	return es
}

func (m *maker) expr(deep int) api.Expr {
	kind := oneOf(m.Rand, api.Literal, api.Name, api.Name)
	if deep > 0 {
		kind = oneOf(m.Rand, api.Cell, api.Binary, api.Binary, api.Binary, api.Not, api.Pick)
	}
	e := api.Expr{Kind: kind}
	kids := map[api.ExprKind]int{api.Binary: 2, api.Not: 1, api.Pick: 3}[kind]
	switch kind {
	case api.Literal:
		e.Value = oneOf(m.Rand, 0, 1, m.Uint64N(9), m.Uint64())
	case api.Name:
		e.Name = oneOf(m.Rand, slices.Concat(m.own, m.rounds, []string{"a", "b", "c"})...)
	case api.Cell:
		name, place := m.cell()
		e.Name, e.Kids = name, []api.Expr{place}
	case api.Binary:
		e.Op = api.Op(m.IntN(10))
	}
	for range kids {
		e.Kids = append(e.Kids, m.expr(deep-1))
	}
	return e
}

// cell is an array, and a place that it has, by its form.
func (m *maker) cell() (string, api.Expr) {
	name, size := "q", uint64(4)
	if m.IntN(3) == 0 {
		name, size = "w", 8
	}
	below := api.Expr{Kind: api.Binary, Op: api.And, Kids: []api.Expr{m.expr(1), {Value: size - 1}}}
	places := []api.Expr{{Value: m.Uint64N(size)}, below}
	if len(m.rounds) > 0 {
		// A counter is 3 at most.
		places = append(places, api.Expr{Kind: api.Name, Name: oneOf(m.Rand, m.rounds...)})
	}
	return name, oneOf(m.Rand, places...)
}

// randomProgram is one that flow takes, read from its text, so that each part has a place.
func randomProgram(t *testing.T, r *rand.Rand) api.Program {
	t.Helper()
	p := api.Program{Decls: decls()}
	r.Shuffle(len(p.Decls), func(i, k int) { p.Decls[i], p.Decls[k] = p.Decls[k], p.Decls[i] })
	for range 1 + r.IntN(4) {
		m := &maker{Rand: r}
		p.Threads = append(p.Threads, m.stmts(3))
	}
	back, err := parse.Program(tree.Text(p))
	if err == nil {
		err = flow.Check(back)
	}
	if err != nil || !tree.Same(back, p) {
		t.Fatal(tree.Text(p), err)
	}
	return back
}

func randomCells(r *rand.Rand) []uint64 {
	var cells []uint64
	for range r.IntN(25) {
		cells = append(cells, oneOf(r, 0, 1, r.Uint64N(9), r.Uint64()))
	}
	return cells
}

// alike holds that a machine tells of itself what the plain rules do.
func alike(t *testing.T, m *Machine, p *plain, about api.Program) {
	t.Helper()
	hasCells(t, m, p.cells()...)
	for k, x := range p.threads {
		s, ok := m.Next(k)
		if ok != x.left || !reflect.DeepEqual(s, x.next) {
			t.Errorf("Next(%d): %+v, %v, not %+v", k, s, ok, x.next)
		}
		isDone(t, m, k, !x.left)
		hasOutput(t, m, k, x.output...)
	}
	if t.Failed() {
		t.Fatal(tree.Text(about))
	}
}

// By Steps at random a machine does what the plain rules do, and by a run behind them, too.
func TestRandom(t *testing.T) {
	r := rand.New(rand.NewPCG(11, 1))
	done, waits, long := 0, 0, 0
	for range 2500 {
		about, cells := randomProgram(t, r), randomCells(r)
		m, p := Of(about, cells), newPlain(about, cells)
		alike(t, m, p, about)
		count := 0
		for range r.IntN(80) {
			k := r.IntN(len(p.threads)+2) - 1
			want := p.step(k)
			if ok := m.Step(k); ok != want {
				t.Fatalf("Step(%d): %v\n%s", k, ok, tree.Text(about))
			}
			if want {
				count++
			}
			alike(t, m, p, about)
		}
		var picks []int
		for range r.IntN(40) {
			picks = append(picks, r.IntN(20)-10)
		}
		want := p.run(picks)
		if ok := m.Run(picks); ok != want {
			t.Fatalf("Run(%v): %v\n%s", picks, ok, tree.Text(about))
		}
		alike(t, m, p, about)
		p.close()
		if want {
			done++
		} else {
			waits++
		}
		if count > 20 {
			long++
		}
	}
	if min(done, waits, long) < 300 {
		t.Error(done, waits, long)
	}
}

// However threads go on, none does more steps than it costs.
func TestRandomCosts(t *testing.T) {
	r := rand.New(rand.NewPCG(11, 2))
	far := 0
	for range 2500 {
		p := randomProgram(t, r)
		m := Of(p, randomCells(r))
		counts := make([]int, len(p.Threads))
		for range 3 {
			for k := range counts {
				n := steps(m, k)
				counts[k] += n
			}
		}
		for k, n := range counts {
			if n > cost.Block(p.Threads[k]) {
				t.Fatalf("thread %d: %d steps\n%s", k, n, tree.Text(p))
			}
			if n > 50 {
				far++
			}
		}
	}
	if far < 100 {
		t.Error(far)
	}
}

// Of programs that flow may not take, made of those that it does by changing names, calls end, and the same is done again.
func TestRandomOthers(t *testing.T) {
	r := rand.New(rand.NewPCG(11, 3))
	refused := 0
	for range 2500 {
		p, cells := randomProgram(t, r), randomCells(r)
		for _, ss := range p.Threads {
			rename(r, ss)
		}
		if flow.Check(p) != nil {
			refused++
		}
		one, two := Of(p, cells), Of(p, cells)
		picks := []int{r.IntN(9), r.IntN(9) - 9, r.IntN(9)}
		if one.Run(picks) != two.Run(picks) {
			t.Fatal(tree.Text(p))
		}
		hasCells(t, one, two.Cells()...)
		for k := range p.Threads {
			hasOutput(t, one, k, two.Output(k)...)
		}
	}
	if refused < 1200 {
		t.Error(refused)
	}
}

// rename gives some statements and expressions other names, those of counters among them.
func rename(r *rand.Rand, ss []api.Stmt) {
	for i := range ss {
		if r.IntN(3) == 0 {
			ss[i].Name = oneOf(r, "x0", "x1", "x2", "a", "q", "l", "none")
		}
		renameExprs(r, ss[i].Exprs)
		rename(r, ss[i].Body)
		rename(r, ss[i].Else)
	}
}

func renameExprs(r *rand.Rand, es []api.Expr) {
	for i := range es {
		if r.IntN(4) == 0 {
			es[i].Name = oneOf(r, "x0", "x1", "x2", "a", "q", "l", "none")
		}
		renameExprs(r, es[i].Kids)
	}
}
