package flow

import (
	"math/big"
	"math/rand/v2"

	"tautochrone/api"
	"tautochrone/scope"
)

// plain is the document's rules once more, by other means: what names stand for is a list that grows by copies, so that nothing has to be left, and what is wrong ends all by a panic.
type plain []row

type row struct {
	name  string
	kind  scope.Kind
	label api.Label
	count int
}

type wrong struct {
	what api.Errno
	at   int
}

func plainNames(s *scope.Scope) plain {
	var p plain
	for _, n := range pool() {
		kind, l, count, _ := s.Find(n)
		p = append(p, row{n, kind, l, count})
	}
	return p
}

func (p plain) find(n string) row {
	for _, r := range p {
		if r.name == n {
			return r
		}
	}
	return row{}
}

func (p plain) with(r row) plain {
	return append(append(plain{}, p...), r)
}

func need(ok bool, what api.Errno, at int) {
	if !ok {
		panic(wrong{what, at})
	}
}

// caught is what a call ends by; nothing, if it ends by itself.
func caught(call func()) (out wrong) {
	defer func() {
		if r := recover(); r != nil {
			out = r.(wrong)
		}
	}()
	call()
	return wrong{}
}

func (p plain) bound(e api.Expr) *big.Int {
	out := big.NewInt(1 << 30)
	two := e.Kind == api.Binary && len(e.Kids) == 2
	switch {
	case e.Kind == api.Literal:
		out.SetUint64(e.Value)
	case e.Kind == api.Name && p.find(e.Name).kind == scope.Round:
		out.SetInt64(int64(p.find(e.Name).count) - 1)
	case two && e.Op == api.And && p.bound(e.Kids[0]).Cmp(p.bound(e.Kids[1])) < 0:
		out = p.bound(e.Kids[0])
	case two && e.Op == api.And:
		out = p.bound(e.Kids[1])
	case two && e.Op == api.Add:
		out.Add(p.bound(e.Kids[0]), p.bound(e.Kids[1]))
	case two && e.Op == api.Mul:
		out.Mul(p.bound(e.Kids[0]), p.bound(e.Kids[1]))
	case two && (e.Op == api.Equal || e.Op == api.Less):
		out.SetInt64(1)
	}
	if out.Cmp(big.NewInt(1<<30)) > 0 {
		out.SetInt64(1 << 30)
	}
	return out
}

func (p plain) label(e api.Expr) (l api.Label, what api.Errno, at int) {
	w := caught(func() { l = p.known(e) })
	return l, w.what, w.at
}

func (p plain) known(e api.Expr) api.Label {
	r := p.find(e.Name)
	switch e.Kind {
	case api.Literal:
		return api.Public
	case api.Name:
		need(r.kind == scope.Shared || r.kind == scope.Own || r.kind == scope.Round, api.ErrType, e.At)
		return r.label
	case api.Cell:
		need(len(e.Kids) == 1 && r.kind == scope.Array, api.ErrType, e.At)
		place := e.Kids[0]
		need(p.known(place) == api.Public, api.ErrFlow, place.At)
		need(p.bound(place).Int64() < int64(r.count), api.ErrType, place.At)
		return r.label
	}
	secrets := 0
	for _, k := range e.Kids {
		if p.known(k) != api.Public {
			secrets++
		}
	}
	return either(secrets > 0)
}

func either(secret bool) api.Label {
	if secret {
		return api.Secret
	}
	return api.Public
}

// check is of programs whose declarations are right.
func (p plain) check(prog api.Program) (api.Errno, int) {
	w := caught(func() {
		for _, d := range prog.Decls {
			p = p.with(declared(d))
		}
		for _, thread := range prog.Threads {
			p.block(thread, false)
		}
	})
	return w.what, w.at
}

func declared(d api.Decl) row {
	switch {
	case d.Lock:
		return row{d.Name, scope.Lock, api.Public, 0}
	case d.Size > 0:
		return row{d.Name, scope.Array, d.Label, d.Size}
	}
	return row{d.Name, scope.Shared, d.Label, 0}
}

func (p plain) block(ss []api.Stmt, pc bool) {
	for _, s := range ss {
		p = p.stmt(s, pc)
	}
}

// stmt is what names stand for behind it.
func (p plain) stmt(s api.Stmt, pc bool) plain {
	r := p.find(s.Name)
	secret := func(i int) bool {
		need(len(s.Exprs) > i, api.ErrType, s.At)
		return p.known(s.Exprs[i]) != api.Public
	}
	switch s.Kind {
	case api.Local:
		l := either(secret(0) || pc)
		need(r.kind == scope.None, api.ErrType, s.At)
		return p.with(row{s.Name, scope.Own, l, 0})
	case api.Assign:
		from := secret(0) || pc
		need(r.kind == scope.Own || r.kind == scope.Shared, api.ErrType, s.At)
		need(!from || r.label != api.Public, api.ErrFlow, s.At)
	case api.Store:
		need(len(s.Exprs) == 2, api.ErrType, s.At)
		to := p.known(at(s.At, cell(s.Name, s.Exprs[0])))
		need(!(secret(1) || pc) || to != api.Public, api.ErrFlow, s.At)
	case api.If:
		under := secret(0) || pc
		p.block(s.Body, under)
		p.block(s.Else, under)
	case api.Loop:
		need(r.kind == scope.None, api.ErrType, s.At)
		p.with(row{s.Name, scope.Round, api.Public, s.Count}).block(s.Body, pc)
	default:
		need(!pc, api.ErrFlow, s.At)
		p.seen(s, r, secret)
	}
	return p
}

func (p plain) seen(s api.Stmt, r row, secret func(int) bool) {
	switch s.Kind {
	case api.Take, api.Give:
		need(r.kind == scope.Lock, api.ErrType, s.At)
	case api.Output:
		need(!secret(0), api.ErrFlow, s.At)
	case api.Bump:
		from := secret(0)
		need(r.kind == scope.Shared, api.ErrType, s.At)
		need(!from || r.label != api.Public, api.ErrFlow, s.At)
	}
}

func pool() []string {
	return []string{"l", "a", "k", "b", "odd", "p", "s", "one", "odds", "wide", "x", "y", "w", "i1", "i2", "i4", "i5", "hidden", "strange", "none"}
}

func oneOf[T any](r *rand.Rand, from ...T) T {
	return from[r.IntN(len(from))]
}

// randomExpr is an expression whose parts stand at places of their own, most of which are right.
func randomExpr(r *rand.Rand, deep, place int) api.Expr {
	e := api.Expr{Op: oneOf(r, operators()...), At: place*1000 + r.IntN(1000)}
	kid := func() api.Expr { return randomExpr(r, r.IntN(deep), place) }
	n := r.IntN(12)
	switch {
	case deep == 0 && n < 5:
		e.Kind, e.Value = api.Literal, oneOf(r, 0, 1, 2, 3, 4, 1<<15, 1<<29, 1<<30, r.Uint64())
	case deep == 0:
		e.Kind, e.Name = api.Name, oneOf(r, oneOf(r, "a", "k", "x", "i4"), oneOf(r, "a", "b", "x", "y", "i2"), oneOf(r, pool()...))
	case n < 4:
		e.Kind, e.Name, e.Kids = api.Cell, oneOf(r, "p", "s", "odds", "wide", oneOf(r, pool()...)), []api.Expr{kid()}
	case n < 9:
		e.Kind, e.Kids = api.Binary, []api.Expr{kid(), kid()}
	case n < 10:
		e.Kind, e.Kids = api.Not, []api.Expr{kid()}
	case n < 11:
		e.Kind, e.Kids = api.Pick, []api.Expr{kid(), kid(), kid()}
	default:
		e.Kind = oneOf(r, api.Cell, api.Binary, api.Not, api.Pick, 9)
		e.Name = "p"
		for range r.IntN(4) {
			e.Kids = append(e.Kids, kid())
		}
	}
	return e
}
