package source

import (
	"slices"

	"tautochrone/api"
)

// stmtsCopy is statements that share nothing with those handed in, or kept.
func stmtsCopy(ss []api.Stmt) []api.Stmt {
	out := slices.Clone(ss)
	for i, s := range out {
		out[i] = stmtCopy(s)
	}
	return out
}

func stmtCopy(s api.Stmt) api.Stmt {
	s.Exprs = exprsCopy(s.Exprs)
	s.Body = stmtsCopy(s.Body)
	s.Else = stmtsCopy(s.Else)
	return s
}

func exprsCopy(es []api.Expr) []api.Expr {
	out := slices.Clone(es)
	for i := range out {
		out[i].Kids = exprsCopy(out[i].Kids)
	}
	return out
}
