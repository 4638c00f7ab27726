package flow

import (
	"tautochrone/api"
	"tautochrone/label"
	"tautochrone/scope"
)

// checker goes through statements with the scope of where it stands. Its pc is the label of whether a statement is done at all.
type checker struct {
	*scope.Scope
}

// block leaves what it enters, however it ends.
func (c checker) block(ss []api.Stmt, pc api.Label) error {
	defer c.Leave(c.Mark())
	for _, s := range ss {
		if err := c.stmt(s, pc); err != nil {
			return err
		}
	}
	return nil
}

func (c checker) stmt(s api.Stmt, pc api.Label) error {
	switch s.Kind {
	case api.Local:
		return c.local(s, pc)
	case api.Assign:
		return c.assign(s, pc)
	case api.Store:
		return c.store(s, pc)
	case api.If:
		return c.choice(s, pc)
	case api.Loop:
		return c.loop(s, pc)
	}
	// All others are seen by who watches, so whether they are done must not hang on a secret.
	if pc != api.Public {
		return leak(s)
	}
	return c.seen(s)
}

func (c checker) local(s api.Stmt, pc api.Label) error {
	l, err := c.value(s)
	if err != nil {
		return err
	}
	if !c.Enter(s.Name, label.Join(l, pc), 0) {
		return mistake(s)
	}
	return nil
}

func (c checker) assign(s api.Stmt, pc api.Label) error {
	l, err := c.value(s)
	if err != nil {
		return err
	}
	kind, to, _, _ := c.Find(s.Name)
	if kind != scope.Own && kind != scope.Shared {
		return mistake(s)
	}
	return into(s, label.Join(l, pc), to)
}

func (c checker) store(s api.Stmt, pc api.Label) error {
	if len(s.Exprs) != 2 {
		return mistake(s)
	}
	to, err := Label(c.Scope, api.Expr{Kind: api.Cell, Name: s.Name, Kids: s.Exprs[:1], At: s.At})
	if err != nil {
		return err
	}
	l, err := Label(c.Scope, s.Exprs[1])
	if err != nil {
		return err
	}
	return into(s, label.Join(l, pc), to)
}

func (c checker) choice(s api.Stmt, pc api.Label) error {
	l, err := c.value(s)
	if err != nil {
		return err
	}
	under := label.Join(pc, l)
	if err := c.block(s.Body, under); err != nil {
		return err
	}
	return c.block(s.Else, under)
}

// loop has a public counter under any label: how many rounds there are is told by the text.
func (c checker) loop(s api.Stmt, pc api.Label) error {
	defer c.Leave(c.Mark())
	if !c.Enter(s.Name, api.Public, s.Count) {
		return mistake(s)
	}
	return c.block(s.Body, pc)
}

func (c checker) seen(s api.Stmt) error {
	switch s.Kind {
	case api.Take, api.Give:
		return c.lock(s)
	case api.Output:
		return c.output(s)
	case api.Bump:
		return c.bump(s)
	}
	return nil
}

func (c checker) lock(s api.Stmt) error {
	if kind, _, _, _ := c.Find(s.Name); kind != scope.Lock {
		return mistake(s)
	}
	return nil
}

func (c checker) output(s api.Stmt) error {
	l, err := c.value(s)
	if err != nil {
		return err
	}
	return into(s, l, api.Public)
}

func (c checker) bump(s api.Stmt) error {
	l, err := c.value(s)
	if err != nil {
		return err
	}
	kind, to, _, _ := c.Find(s.Name)
	if kind != scope.Shared {
		return mistake(s)
	}
	return into(s, l, to)
}

// value is the label of the one expression that a statement has.
func (c checker) value(s api.Stmt) (api.Label, error) {
	if len(s.Exprs) == 0 {
		return api.Public, mistake(s)
	}
	return Label(c.Scope, s.Exprs[0])
}

// into is what is wrong with a statement that takes what has one label to where another one is.
func into(s api.Stmt, from, to api.Label) error {
	if !label.Flows(from, to) {
		return leak(s)
	}
	return nil
}

func leak(s api.Stmt) error { return api.Wrap(api.ErrFlow, s.At) }

func mistake(s api.Stmt) error { return api.Wrap(api.ErrType, s.At) }
