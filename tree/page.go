package tree

import (
	"strconv"
	"strings"

	"tautochrone/api"
	"tautochrone/word"
)

// missing stands where a part should be that there is not, or that is none.
const missing = "?"

// tightest is more than any operator binds: what it is asked of is one thing, or stands in brackets.
const tightest = 9

// page is a text that grows at its end, so that trees of any depth are gone through once, and how many blocks its end is in.
type page struct {
	strings.Builder
	deep int
}

func (p *page) expr(e api.Expr, tight int) {
	switch e.Kind {
	case api.Literal:
		p.WriteString(strconv.FormatUint(e.Value, 10))
	case api.Name:
		p.WriteString(e.Name)
	case api.Cell:
		p.cell(e.Name, e.Kids)
	case api.Binary:
		p.binary(e, tight)
	case api.Not:
		p.WriteByte('~')
		p.part(e.Kids, 0, tightest)
	case api.Pick:
		p.pick(e.Kids)
	default:
		p.WriteString(missing)
	}
}

// part is the text of one of several expressions, of which there may be too few.
func (p *page) part(es []api.Expr, i, tight int) {
	if i >= len(es) {
		p.WriteString(missing)
		return
	}
	p.expr(es[i], tight)
}

func (p *page) cell(name string, es []api.Expr) {
	p.WriteString(name)
	p.WriteByte('[')
	p.part(es, 0, 0)
	p.WriteByte(']')
}

func (p *page) pick(es []api.Expr) {
	p.WriteString("pick(")
	p.part(es, 0, 0)
	p.WriteString(", ")
	p.part(es, 1, 0)
	p.WriteString(", ")
	p.part(es, 2, 0)
	p.WriteByte(')')
}

// binary asks more of the second kid than of the first: operators that bind alike are read from the left on.
func (p *page) binary(e api.Expr, tight int) {
	own := word.Tight(e.Op)
	if own == 0 {
		p.WriteString(missing)
		return
	}
	if own < tight {
		p.WriteByte('(')
		p.binary(e, own)
		p.WriteByte(')')
		return
	}
	p.part(e.Kids, 0, own)
	p.WriteByte(' ')
	p.WriteString(word.Signs()[e.Op])
	p.WriteByte(' ')
	p.part(e.Kids, 1, own+1)
}

// indent begins a line: a tabulator for each block.
func (p *page) indent() {
	for range p.deep {
		p.WriteByte('\t')
	}
}

func (p *page) line(s string) {
	p.indent()
	p.WriteString(s)
	p.WriteByte('\n')
}

// value is a line that ends with the first of the expressions.
func (p *page) value(ahead string, es []api.Expr) {
	p.indent()
	p.WriteString(ahead)
	p.part(es, 0, 0)
	p.WriteString(";\n")
}

func (p *page) decl(d api.Decl) {
	if d.Lock {
		p.line("lock " + d.Name + ";")
		return
	}
	if d.Label == api.Public {
		p.WriteString("public ")
	} else {
		p.WriteString("secret ")
	}
	p.WriteString(d.Name)
	if d.Size > 0 {
		p.WriteString("[" + strconv.Itoa(d.Size) + "]")
	}
	if d.By != "" {
		p.WriteString(" by " + d.By)
	}
	p.WriteString(";\n")
}

func (p *page) block(stmts []api.Stmt) {
	p.deep++
	for _, s := range stmts {
		p.stmt(s)
	}
	p.deep--
}

func (p *page) stmt(s api.Stmt) {
	switch s.Kind {
	case api.Local:
		p.value("local "+s.Name+" = ", s.Exprs)
	case api.Assign:
		p.value(s.Name+" = ", s.Exprs)
	case api.Store:
		p.indent()
		p.cell(s.Name, s.Exprs)
		p.WriteString(" = ")
		p.part(s.Exprs, 1, 0)
		p.WriteString(";\n")
	case api.If:
		p.choice(s)
	case api.Loop:
		p.line("loop " + s.Name + " " + strconv.Itoa(s.Count) + " {")
		p.block(s.Body)
		p.line("}")
	case api.Take:
		p.line("take " + s.Name + ";")
	case api.Give:
		p.line("give " + s.Name + ";")
	case api.Bump:
		p.value("add "+s.Name+" ", s.Exprs)
	case api.Fence:
		p.line("fence;")
	default:
		p.value("output ", s.Exprs)
	}
}

func (p *page) choice(s api.Stmt) {
	p.indent()
	p.WriteString("if (")
	p.part(s.Exprs, 0, 0)
	p.WriteString(") {\n")
	p.block(s.Body)
	if len(s.Else) > 0 {
		p.line("} else {")
		p.block(s.Else)
	}
	p.line("}")
}
