package parse

import (
	"tautochrone/api"
	"tautochrone/lex"
)

// block is statements in braces; each of them stands in so many statements, it counted.
func (r *reader) block(deep int) []api.Stmt {
	var ss []api.Stmt
	r.want("{")
	for r.err == nil && !r.take("}") {
		ss = append(ss, r.stmt(deep))
	}
	return ss
}

func (r *reader) stmt(deep int) api.Stmt {
	first := r.here()
	kind, ok := stmtKind(first)
	switch {
	case !ok:
		r.fail(api.ErrParse)
		return api.Stmt{}
	case deep > api.MaxDeep:
		r.fail(api.ErrLimit)
		return api.Stmt{}
	}
	r.next()
	s := api.Stmt{Kind: kind, At: first.At}
	switch kind {
	case api.If:
		r.choice(&s, deep)
	case api.Loop:
		s.Name = r.name()
		s.Count = r.number(api.MaxLoop)
		s.Body = r.block(deep + 1)
	default:
		r.simple(&s, first, deep)
		r.want(";")
	}
	return s
}

// stmtKind is which kind of statement a token begins; false, if it begins none. Whether a Word begins an Assign or a Store
// is told by the token behind it.
func stmtKind(t lex.Token) (api.StmtKind, bool) {
	if t.Kind == lex.Word {
		return api.Assign, true
	}
	switch t.Text {
	case "local":
		return api.Local, true
	case "if":
		return api.If, true
	case "loop":
		return api.Loop, true
	case "take":
		return api.Take, true
	case "give":
		return api.Give, true
	case "add":
		return api.Bump, true
	case "fence":
		return api.Fence, true
	case "output":
		return api.Output, true
	}
	return 0, false
}

// choice reads what stands behind an if.
func (r *reader) choice(s *api.Stmt, deep int) {
	r.want("(")
	r.value(s, deep)
	r.want(")")
	s.Body = r.block(deep + 1)
	if r.take("else") {
		s.Else = r.block(deep + 1)
	}
}

// simple reads what stands behind the first token of a statement that has no block.
func (r *reader) simple(s *api.Stmt, first lex.Token, deep int) {
	switch s.Kind {
	case api.Local:
		s.Name = r.name()
		r.want("=")
		r.value(s, deep)
	case api.Assign:
		s.Name = first.Text
		if r.take("[") {
			s.Kind = api.Store
			r.value(s, deep)
			r.want("]")
		}
		r.want("=")
		r.value(s, deep)
	case api.Take, api.Give:
		s.Name = r.name()
	case api.Bump:
		s.Name = r.name()
		r.value(s, deep)
	case api.Output:
		r.value(s, deep)
	}
}

// value reads an expression of a statement.
func (r *reader) value(s *api.Stmt, deep int) {
	s.Exprs = append(s.Exprs, r.expr(0, deep+1))
}
