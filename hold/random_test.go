package hold

import (
	"math/rand/v2"
	"reflect"
	"slices"
	"testing"

	"tautochrone/api"
)

func oneOf[T any](r *rand.Rand, from ...T) T {
	return from[r.IntN(len(from))]
}

// maker makes programs at random that keep the rule for a while: it knows which locks are held, and mostly uses what may be used.
type maker struct {
	*rand.Rand
	place  int
	thread int
	held   []string
}

func decls() []api.Decl {
	return []api.Decl{
		{Name: "l", Lock: true}, {Name: "m", Lock: true}, {Name: "n", Lock: true}, {Name: "a", By: "l"}, {Name: "b", By: "m", Label: api.Secret},
		{Name: "p", By: "l", Size: 4}, {Name: "c"}, {Name: "d", Label: api.Secret}, {Name: "q", Size: 4}, {Name: "s"}, {Name: "t"}, {Name: "u"},
	}
}

// at is a place that no other part has.
func (m *maker) at() int {
	m.place += 1 + m.IntN(9)
	return m.place
}

func (m *maker) seldom() bool { return m.IntN(60) == 0 }

// name is mostly one that may be used where it stands.
func (m *maker) name() string {
	if m.seldom() {
		return oneOf(m.Rand, "l", "m", "n", "a", "b", "p", "c", "d", "q", "s", "t", "u", "x", "none")
	}
	names := []string{"x", oneOf(m.Rand, "s", "t", "u")}
	if m.IntN(4) > 0 {
		// Each of the first threads has one for itself.
		names[1] = []string{"s", "t", "u", "x"}[m.thread]
	}
	if slices.Contains(m.held, "l") {
		names = append(names, "a", "p")
	}
	if slices.Contains(m.held, "m") {
		names = append(names, "b")
	}
	return oneOf(m.Rand, names...)
}

func (m *maker) expr(deep int) api.Expr {
	e := api.Expr{Kind: oneOf(m.Rand, api.Literal, api.Name, api.Name, api.Cell, api.Not, api.Binary, api.Pick), At: m.at()}
	if deep == 0 {
		e.Kind = oneOf(m.Rand, api.Literal, api.Name)
	}
	kids := 0
	switch e.Kind {
	case api.Name:
		e.Name = m.name()
	case api.Cell:
		e.Name, kids = m.name(), 1
	case api.Not:
		kids = 1
	case api.Binary:
		kids = 2
	case api.Pick:
		kids = 3
	}
	for range kids {
		e.Kids = append(e.Kids, m.expr(deep-1))
	}
	return e
}

func (m *maker) block(deep int) []api.Stmt {
	var ss []api.Stmt
	mark := len(m.held)
	for range m.IntN(5) {
		ss = append(ss, m.stmt(deep))
	}
	for len(m.held) > mark && !m.seldom() {
		ss = append(ss, m.give())
	}
	return ss
}

// give is mostly of the lock that was taken last.
func (m *maker) give() api.Stmt {
	s := api.Stmt{Kind: api.Give, Name: oneOf(m.Rand, "l", "m", "n"), At: m.at()}
	if last := len(m.held) - 1; last >= 0 && !m.seldom() {
		s.Name = m.held[last]
		m.held = m.held[:last]
	}
	return s
}

// take is mostly of a lock that is free.
func (m *maker) take() api.Stmt {
	s := api.Stmt{Kind: api.Take, Name: oneOf(m.Rand, "l", "m", "n"), At: m.at()}
	if slices.Contains(m.held, s.Name) && !m.seldom() {
		return m.give()
	}
	m.held = append(m.held, s.Name)
	return s
}

func (m *maker) stmt(deep int) api.Stmt {
	s := api.Stmt{At: m.at()}
	n := m.IntN(20)
	switch {
	case n < 5:
		return m.take()
	case n < 6 && len(m.held) > 0 && deep == 3:
		return m.give()
	case deep > 0 && n < 10:
		s.Kind, s.Exprs = api.If, []api.Expr{m.expr(1)}
		s.Body, s.Else = m.block(deep-1), m.block(deep-1)
	case deep > 0 && n < 12:
		s.Kind, s.Name, s.Count = api.Loop, oneOf(m.Rand, "x", "y", "a", "c", "d"), 2
		s.Body = m.block(deep - 1)
	case n < 13:
		s.Kind, s.Name, s.Exprs = api.Local, oneOf(m.Rand, "x", "y", "a", "b", "p", "c", "d"), []api.Expr{m.expr(1)}
	case n < 15:
		s.Kind, s.Name, s.Exprs = api.Assign, m.name(), []api.Expr{m.expr(2)}
	case n < 16:
		s.Kind, s.Name, s.Exprs = api.Store, m.name(), []api.Expr{m.expr(1), m.expr(1)}
	case n < 18:
		s.Kind, s.Name, s.Exprs = api.Bump, oneOf(m.Rand, "c", "d", "c", "d", m.name()), []api.Expr{m.expr(1)}
	case n < 19:
		s.Kind = api.Fence
	default:
		s.Kind, s.Exprs = api.Output, []api.Expr{m.expr(2)}
	}
	return s
}

func randomProgram(r *rand.Rand) api.Program {
	p := api.Program{Decls: decls()}
	for i := range 1 + r.IntN(4) {
		m := &maker{Rand: r, place: 1000 * i, thread: i}
		p.Threads = append(p.Threads, m.block(3))
	}
	return p
}

// Of programs at random Check tells what the plain rules tell.
func TestCheckRandom(t *testing.T) {
	r := rand.New(rand.NewPCG(8, 1))
	good, long := 0, 0
	counts := map[deed]int{}
	late := map[deed]int{}
	for range 40000 {
		p := randomProgram(r)
		first, bad := plain(p)
		err := Check(p)
		if (err != nil) != bad || bad && (api.Number(err) != api.ErrLock || api.Place(err) != first.at) {
			t.Fatalf("Check(%+v): %v, not %+v", p, err, first)
		}
		switch {
		case !bad:
			good++
			if len(storyOf(p)) > 60 {
				long++
			}
		case first.thread > 0:
			late[first.what]++
		default:
			counts[first.what]++
		}
	}
	for _, what := range []deed{read, bump, take, give, end} {
		if counts[what] < 100 && what != bump || late[what] < 100 {
			t.Error(what, counts, late)
		}
	}
	if good < 4000 || long < 1000 {
		t.Error(good, long, counts, late)
	}
}

// A program is not another one behind Check, and what is told of it does not change.
func TestCheckLeavesAll(t *testing.T) {
	texts := []string{"take l; a = 1; if (a) { give l; take m; b = c; give m; take l; } else { p[1] = a; } give l; loop i 4 { local a = i; c = c + a; }", "take l; take m; if (c) { give m; give l; take m; take l; } give m; give l;", "a = 1;", "c = 1; } thread { add c 1;", "take l;"}
	for _, text := range texts {
		text = head + "thread { " + text + " }"
		p, was := program(t, text), program(t, text)
		first := Check(p)
		for range 3 {
			if err := Check(p); !reflect.DeepEqual(err, first) {
				t.Errorf("%q: %v, then %v", text, first, err)
			}
		}
		if !reflect.DeepEqual(p, was) {
			t.Errorf("%q: %+v", text, p)
		}
	}
}

// Blocks may stand in each other as deep as they like, expressions too, and there may be many of them.
func TestCheckDeep(t *testing.T) {
	const deep = 1 << 15
	for _, last := range []api.Stmt{{Kind: api.Assign, Name: "a", At: 9}, {Kind: api.Give, Name: "l", At: 9}, {Kind: api.Assign, Name: "c", At: 9}} {
		under := []api.Stmt{last}
		value := api.Expr{Kind: api.Name, Name: last.Name, At: 9}
		for i := range deep {
			step := api.Stmt{Kind: api.If, At: 3}
			switch i % 3 {
			case 0:
				step.Body = under
			case 1:
				step.Else = under
			default:
				step = api.Stmt{Kind: api.Loop, Name: "i", Count: 2, Body: under, At: 4}
			}
			under = []api.Stmt{step}
			value = api.Expr{Kind: api.Not, Kids: []api.Expr{value}, At: 5}
		}
		ahead := []api.Stmt{{Kind: api.Assign, Name: "c"}}
		checkErr(t, api.Program{Decls: decls(), Threads: [][]api.Stmt{ahead, under}}, 9, last.Name)
		if last.Kind == api.Assign {
			checkErr(t, api.Program{Decls: decls(), Threads: [][]api.Stmt{ahead, {{Kind: api.Output, Exprs: []api.Expr{value}}}}}, 9, last.Name)
		}
	}
}
