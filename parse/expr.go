package parse

import (
	"slices"

	"tautochrone/api"
	"tautochrone/lex"
	"tautochrone/word"
)

// expr is an expression up to an operator that binds no tighter than so; it stands in so many statements and expressions,
// it counted.
func (r *reader) expr(tight, deep int) api.Expr {
	left := r.unary(deep)
	for {
		op := api.Op(slices.Index(r.signs, r.here().Text))
		// What is no operator is not tight at all.
		if word.Tight(op) <= tight {
			return left
		}
		r.next()
		right := r.expr(word.Tight(op), deep+1)
		left = api.Expr{Kind: api.Binary, Op: op, Kids: []api.Expr{left, right}, At: left.At}
	}
}

// unary is an expression without operators but in brackets.
func (r *reader) unary(deep int) api.Expr {
	first := r.here()
	switch {
	case !beginsExpr(first):
		r.fail(api.ErrParse)
		return api.Expr{}
	case deep > api.MaxDeep:
		r.fail(api.ErrLimit)
		return api.Expr{}
	}
	r.next()
	switch first.Text {
	case "~":
		return api.Expr{Kind: api.Not, Kids: []api.Expr{r.unary(deep + 1)}, At: first.At}
	case "pick":
		return api.Expr{Kind: api.Pick, Kids: r.three(deep + 1), At: first.At}
	case "(":
		e := r.expr(0, deep+1)
		r.want(")")
		return e
	}
	if first.Kind == lex.Digits {
		return api.Expr{Kind: api.Literal, Value: first.Value, At: first.At}
	}
	return r.named(first, deep)
}

// beginsExpr tells whether a token begins an expression.
func beginsExpr(t lex.Token) bool {
	return t.Kind == lex.Word || t.Kind == lex.Digits || t.Text == "~" || t.Text == "(" || t.Text == "pick"
}

// named is an expression that begins with a name.
func (r *reader) named(first lex.Token, deep int) api.Expr {
	e := api.Expr{Kind: api.Name, Name: first.Text, At: first.At}
	if r.take("[") {
		e.Kind = api.Cell
		e.Kids = []api.Expr{r.expr(0, deep+1)}
		r.want("]")
	}
	return e
}

// three are the expressions of a pick.
func (r *reader) three(deep int) []api.Expr {
	r.want("(")
	a := r.expr(0, deep)
	r.want(",")
	b := r.expr(0, deep)
	r.want(",")
	c := r.expr(0, deep)
	r.want(")")
	return []api.Expr{a, b, c}
}
