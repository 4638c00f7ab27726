package source

import (
	"tautochrone/api"
	"tautochrone/word"
)

// do does a statement of a thread that stands behind it already.
func (m *Machine) do(t *thread, s api.Stmt) {
	switch s.Kind {
	case api.Local:
		t.enter(s.Name, m.nth(t, s.Exprs, 0))
	case api.Assign:
		put(m.named(t, s.Name), m.nth(t, s.Exprs, 0))
	case api.Store:
		put(m.cell(s.Name, m.nth(t, s.Exprs, 0)), m.nth(t, s.Exprs, 1))
	case api.If:
		if m.nth(t, s.Exprs, 0) != 0 {
			t.open(frame{block: s.Body})
		} else {
			t.open(frame{block: s.Else})
		}
	case api.Loop:
		t.loop(s)
	case api.Take:
		put(m.cell(s.Name, 0), 1)
	case api.Give:
		put(m.cell(s.Name, 0), 0)
	case api.Bump:
		to := m.cell(s.Name, 0)
		put(to, got(to)+m.nth(t, s.Exprs, 0))
	case api.Output:
		t.output = append(t.output, m.nth(t, s.Exprs, 0))
	}
}

// value is what an expression comes to where a thread stands.
func (m *Machine) value(t *thread, e api.Expr) uint64 {
	switch e.Kind {
	case api.Literal:
		return e.Value
	case api.Name:
		return got(m.named(t, e.Name))
	case api.Cell:
		return got(m.cell(e.Name, m.nth(t, e.Kids, 0)))
	case api.Binary:
		return word.Apply(e.Op, m.nth(t, e.Kids, 0), m.nth(t, e.Kids, 1))
	case api.Not:
		return ^m.nth(t, e.Kids, 0)
	case api.Pick:
		return word.Pick(m.nth(t, e.Kids, 0), m.nth(t, e.Kids, 1), m.nth(t, e.Kids, 2))
	}
	return 0
}

// nth is the value of the expression at a place of a list; 0, if there is none.
func (m *Machine) nth(t *thread, es []api.Expr, i int) uint64 {
	if i >= len(es) {
		return 0
	}
	return m.value(t, es[i])
}

// named is where the value of a name is: the local's, or the cell's; nil, if there is none.
func (m *Machine) named(t *thread, name string) *uint64 {
	if local, ok := t.locals[name]; ok {
		return local
	}
	return m.cell(name, 0)
}

// cell is a place of what was declared by a name; nil, if there is none.
func (m *Machine) cell(name string, at uint64) *uint64 {
	row := m.rows[name]
	if at >= uint64(len(row)) {
		return nil
	}
	return &row[at]
}

func got(from *uint64) uint64 {
	if from == nil {
		return 0
	}
	return *from
}

func put(to *uint64, value uint64) {
	if to != nil {
		*to = value
	}
}
