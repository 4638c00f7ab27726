package source

import (
	"iter"

	"tautochrone/api"
)

// plain is the document's rules once more, by other means: each thread is a function that goes through its statements as they are nested, and stops ahead of each one.
type plain struct {
	names   []string
	rows    [][]uint64
	threads []*plainThread
}

type plainThread struct {
	*plain
	output []uint64
	next   api.Stmt
	left   bool
	resume func() (api.Stmt, bool)
	stop   func()
}

// env is a local, and those around it.
type env struct {
	name  string
	value uint64
	outer *env
}

func newPlain(p api.Program, cells []uint64) *plain {
	all := &plain{}
	for _, d := range p.Decls {
		row := make([]uint64, max(1, d.Size))
		if d.Lock {
			row = row[:1]
		}
		for i := range row {
			if len(cells) > 0 && !d.Lock {
				row[i] = cells[0]
			}
			if len(cells) > 0 {
				cells = cells[1:]
			}
		}
		all.names, all.rows = append(all.names, d.Name), append(all.rows, row)
	}
	for _, ss := range p.Threads {
		t := &plainThread{plain: all}
		t.resume, t.stop = iter.Pull(func(yield func(api.Stmt) bool) { t.block(ss, nil, yield) })
		t.next, t.left = t.resume()
		all.threads = append(all.threads, t)
	}
	return all
}

// close ends all that the threads have under way.
func (p *plain) close() {
	for _, t := range p.threads {
		t.stop()
	}
}

func (p *plain) cells() []uint64 {
	var all []uint64
	for _, row := range p.rows {
		all = append(all, row...)
	}
	return all
}

func (p *plain) row(name string) []uint64 {
	for i, n := range p.names {
		if n == name {
			return p.rows[i]
		}
	}
	panic("no row " + name)
}

func (p *plain) step(k int) bool {
	if k < 0 || k >= len(p.threads) {
		return false
	}
	t := p.threads[k]
	if !t.left || t.next.Kind == api.Take && p.row(t.next.Name)[0] != 0 {
		return false
	}
	t.next, t.left = t.resume()
	return true
}

// run asks each thread again and again, till as many were asked in vain, one behind the other, as there are.
func (p *plain) run(picks []int) bool {
	n := len(p.threads)
	for _, pick := range picks {
		for pick < 0 {
			pick += n
		}
		p.step(pick % n)
	}
	for k, vain := 0, 0; vain < n; k++ {
		vain++
		if p.step(k % n) {
			vain = 0
		}
	}
	for _, t := range p.threads {
		if t.left {
			return false
		}
	}
	return true
}

// block is false, if the thread is to end ahead of its time.
func (t *plainThread) block(ss []api.Stmt, locals *env, yield func(api.Stmt) bool) bool {
	for _, s := range ss {
		if !yield(s) {
			return false
		}
		if s.Kind == api.Local {
			locals = &env{s.Name, t.value(s.Exprs[0], locals), locals}
		} else if !t.stmt(s, locals, yield) {
			return false
		}
	}
	return true
}

func (t *plainThread) stmt(s api.Stmt, locals *env, yield func(api.Stmt) bool) bool {
	var values []uint64
	for _, e := range s.Exprs {
		values = append(values, t.value(e, locals))
	}
	switch s.Kind {
	case api.Assign:
		if own := locals.find(s.Name); own != nil {
			own.value = values[0]
		} else {
			t.row(s.Name)[0] = values[0]
		}
	case api.Store:
		t.row(s.Name)[values[0]] = values[1]
	case api.If:
		block := s.Body
		if values[0] == 0 {
			block = s.Else
		}
		return t.block(block, locals, yield)
	case api.Loop:
		for i := range s.Count {
			if !t.block(s.Body, &env{s.Name, uint64(i), locals}, yield) {
				return false
			}
		}
	case api.Take:
		t.row(s.Name)[0] = 1
	case api.Give:
		t.row(s.Name)[0] = 0
	case api.Bump:
		t.row(s.Name)[0] += values[0]
	case api.Output:
		t.output = append(t.output, values[0])
	}
	return true
}

func (l *env) find(name string) *env {
	for l != nil && l.name != name {
		l = l.outer
	}
	return l
}

func (t *plainThread) value(e api.Expr, locals *env) uint64 {
	var kids []uint64
	for _, kid := range e.Kids {
		kids = append(kids, t.value(kid, locals))
	}
	switch e.Kind {
	case api.Literal:
		return e.Value
	case api.Name:
		if own := locals.find(e.Name); own != nil {
			return own.value
		}
		return t.row(e.Name)[0]
	case api.Cell:
		return t.row(e.Name)[kids[0]]
	case api.Not:
		return 1<<64 - 1 - kids[0]
	case api.Pick:
		if kids[0] != 0 {
			return kids[1]
		}
		return kids[2]
	}
	return binary(e.Op, kids[0], kids[1])
}

func binary(op api.Op, a, b uint64) uint64 {
	truth := map[bool]uint64{true: 1}
	switch op {
	case api.Add:
		return a + b
	case api.Sub:
		return a - b
	case api.Mul:
		return a * b
	case api.And:
		return a & b
	case api.Or:
		return a | b
	case api.Xor:
		return a ^ b
	case api.Shl:
		return a << (b & 63)
	case api.Shr:
		return a >> (b & 63)
	case api.Equal:
		return truth[a == b]
	}
	return truth[a < b]
}
