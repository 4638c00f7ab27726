package parse

import (
	"errors"
	"math/rand/v2"
	"reflect"
	"strings"
	"testing"
	"unsafe"

	"tautochrone/api"
	"tautochrone/lex"
	"tautochrone/tree"
)

func newRandom(seed uint64) *rand.Rand { return rand.New(rand.NewPCG(seed, 1)) }

func lit(n uint64, at int) api.Expr { return api.Expr{Kind: api.Literal, Value: n, At: at} }

func name(s string, at int) api.Expr { return api.Expr{Kind: api.Name, Name: s, At: at} }

func cell(s string, place api.Expr, at int) api.Expr {
	return api.Expr{Kind: api.Cell, Name: s, Kids: []api.Expr{place}, At: at}
}

func not(kid api.Expr, at int) api.Expr {
	return api.Expr{Kind: api.Not, Kids: []api.Expr{kid}, At: at}
}

func pick(a, b, c api.Expr, at int) api.Expr {
	return api.Expr{Kind: api.Pick, Kids: []api.Expr{a, b, c}, At: at}
}

func binary(op api.Op, a, b api.Expr) api.Expr {
	return api.Expr{Kind: api.Binary, Op: op, Kids: []api.Expr{a, b}, At: a.At}
}

// Lists without things are nil here, as one likes.
func plainExprs(es []api.Expr) []api.Expr {
	var out []api.Expr
	for _, e := range es {
		e.Kids = plainExprs(e.Kids)
		out = append(out, e)
	}
	return out
}

func plainBlock(ss []api.Stmt) []api.Stmt {
	var out []api.Stmt
	for _, s := range ss {
		s.Exprs, s.Body, s.Else = plainExprs(s.Exprs), plainBlock(s.Body), plainBlock(s.Else)
		out = append(out, s)
	}
	return out
}

func plain(p api.Program) api.Program {
	var out api.Program
	out.Decls = append(out.Decls, p.Decls...)
	for _, ss := range p.Threads {
		out.Threads = append(out.Threads, plainBlock(ss))
	}
	return out
}

func checkProgram(t *testing.T, s string, want api.Program) {
	t.Helper()
	p, err := Program(s)
	if err != nil || !reflect.DeepEqual(plain(p), plain(want)) {
		t.Errorf("%.300q:\n%v, %v, not\n%v", s, p, err, want)
	}
}

func checkBlock(t *testing.T, s string, want ...api.Stmt) {
	t.Helper()
	checkProgram(t, "thread{"+s+"}", api.Program{Threads: [][]api.Stmt{want}})
}

func TestProgramExamples(t *testing.T) {
	checkProgram(t, "thread { }", api.Program{Threads: [][]api.Stmt{nil}})
	checkFault(t, "thread { a = 1 }", api.ErrParse, 15)
	checkFault(t, "", api.ErrParse, 0)
}

func TestProgramDecls(t *testing.T) {
	checkProgram(t, "lock l;public a;secret b; public c by l;\tsecret d[1]by l; public e[64];secret f[007] by e;thread{}thread { } ", api.Program{
		Decls: []api.Decl{
			{Lock: true, Name: "l", At: 0},
			{Name: "a", At: 7},
			{Label: api.Secret, Name: "b", At: 16},
			{Name: "c", By: "l", At: 26},
			{Label: api.Secret, Name: "d", Size: 1, By: "l", At: 41},
			{Name: "e", Size: 64, At: 58},
			{Label: api.Secret, Name: "f", Size: 7, By: "e", At: 71},
		},
		Threads: [][]api.Stmt{nil, nil},
	})
	// What names stand for is not asked here.
	checkProgram(t, "# x\nlock a; lock a; # thread\n\n public a by a;thread{# }\n}", api.Program{
		Decls:   []api.Decl{{Lock: true, Name: "a", At: 4}, {Lock: true, Name: "a", At: 12}, {Name: "a", By: "a", At: 31}},
		Threads: [][]api.Stmt{nil},
	})
}

// The text begins at 7.
func TestProgramStatements(t *testing.T) {
	one := func(n uint64, at int) []api.Expr { return []api.Expr{lit(n, at)} }
	checkBlock(t, "local a=1;", api.Stmt{Kind: api.Local, Name: "a", Exprs: one(1, 15), At: 7})
	checkBlock(t, "a=1;", api.Stmt{Kind: api.Assign, Name: "a", Exprs: one(1, 9), At: 7})
	checkBlock(t, "a[2]=1;", api.Stmt{Kind: api.Store, Name: "a", Exprs: []api.Expr{lit(2, 9), lit(1, 12)}, At: 7})
	checkBlock(t, "take a;", api.Stmt{Kind: api.Take, Name: "a", At: 7})
	checkBlock(t, "give a;", api.Stmt{Kind: api.Give, Name: "a", At: 7})
	checkBlock(t, "add a 1;", api.Stmt{Kind: api.Bump, Name: "a", Exprs: one(1, 13), At: 7})
	checkBlock(t, "fence;", api.Stmt{Kind: api.Fence, At: 7})
	checkBlock(t, "output 1;", api.Stmt{Kind: api.Output, Exprs: one(1, 14), At: 7})
	checkBlock(t, "loop i 1{}", api.Stmt{Kind: api.Loop, Name: "i", Count: 1, At: 7})
	checkBlock(t, "loop i 256{fence;fence;}", api.Stmt{Kind: api.Loop, Name: "i", Count: 256, Body: []api.Stmt{{Kind: api.Fence, At: 18}, {Kind: api.Fence, At: 24}}, At: 7})
	fence := func(at int) []api.Stmt { return []api.Stmt{{Kind: api.Fence, At: at}} }
	checkBlock(t, "if(1){}", api.Stmt{Kind: api.If, Exprs: one(1, 10), At: 7})
	checkBlock(t, "if(1){}else{}", api.Stmt{Kind: api.If, Exprs: one(1, 10), At: 7})
	checkBlock(t, "if(1){fence;}", api.Stmt{Kind: api.If, Exprs: one(1, 10), Body: fence(13), At: 7})
	checkBlock(t, "if(1){fence;}else{fence;}", api.Stmt{Kind: api.If, Exprs: one(1, 10), Body: fence(13), Else: fence(25), At: 7})
	checkBlock(t, "if(1){}else{fence;}fence;", api.Stmt{Kind: api.If, Exprs: one(1, 10), Else: fence(19), At: 7}, api.Stmt{Kind: api.Fence, At: 26})
	checkBlock(t, "if(1){if(2){}else{fence;}}else{}",
		api.Stmt{Kind: api.If, Exprs: one(1, 10), Body: []api.Stmt{{Kind: api.If, Exprs: one(2, 16), Else: fence(25), At: 13}}, At: 7})
	checkBlock(t, " # {\n a = 1 ; \t fence\r;", api.Stmt{Kind: api.Assign, Name: "a", Exprs: one(1, 17), At: 13}, api.Stmt{Kind: api.Fence, At: 23})
}

// The expression begins at 9.
func TestProgramExpressions(t *testing.T) {
	a, b := name("a", 9), name("b", 11)
	for s, want := range map[string]api.Expr{
		"0":                                     lit(0, 9),
		"18446744073709551615":                  lit(1<<64-1, 9),
		"007":                                   lit(7, 9),
		"a":                                     a,
		"picks":                                 name("picks", 9),
		"a[b]":                                  cell("a", b, 9),
		"a [ b[1] ]":                            cell("a", cell("b", lit(1, 15), 13), 9),
		"~a":                                    not(name("a", 10), 9),
		"~ ~a[~2]":                              not(not(cell("a", not(lit(2, 15), 14), 12), 11), 9),
		"(a)":                                   name("a", 10),
		"((( a)) )":                             name("a", 13),
		"(~a)":                                  not(name("a", 11), 10),
		"~(a+b)":                                not(binary(api.Add, name("a", 11), name("b", 13)), 9),
		"~a+b":                                  binary(api.Add, not(name("a", 10), 9), name("b", 12)),
		"a+~b":                                  binary(api.Add, a, not(name("b", 12), 11)),
		"(a)+b":                                 binary(api.Add, name("a", 10), name("b", 13)),
		"(a+b)":                                 binary(api.Add, name("a", 10), name("b", 12)),
		"((a)+(b))*1":                           binary(api.Mul, binary(api.Add, name("a", 11), name("b", 15)), lit(1, 19)),
		"a+b*1":                                 binary(api.Add, a, binary(api.Mul, b, lit(1, 13))),
		"a*b+1":                                 binary(api.Add, binary(api.Mul, a, b), lit(1, 13)),
		"a-b-1":                                 binary(api.Sub, binary(api.Sub, a, b), lit(1, 13)),
		"a-(b-1)":                               binary(api.Sub, a, binary(api.Sub, name("b", 12), lit(1, 14))),
		"a[b]+a[b+1]":                           binary(api.Add, cell("a", b, 9), cell("a", binary(api.Add, name("b", 16), lit(1, 18)), 14)),
		"pick(a,b|1,2)":                         pick(name("a", 14), binary(api.Or, name("b", 16), lit(1, 18)), lit(2, 20), 9),
		"pick (pick(1,2,3) , ( 4 ),~5)\t+ #\n6": binary(api.Add, pick(pick(lit(1, 20), lit(2, 22), lit(3, 24), 15), lit(4, 31), not(lit(5, 36), 35), 9), lit(6, 43)),
	} {
		checkBlock(t, "a="+s+";", api.Stmt{Kind: api.Assign, Name: "a", Exprs: []api.Expr{want}, At: 7})
	}
}

func signs() ([]string, []int) {
	return strings.Fields("+ - * & | ^ << >> == <"), []int{6, 6, 7, 4, 1, 2, 5, 5, 3, 3}
}

// Each operator beside each other one, without brackets and with them.
func TestProgramBinding(t *testing.T) {
	texts, tight := signs()
	for i, s := range texts {
		for j, u := range texts {
			a, b, c := name("a", 9), name("b", 10+len(s)), name("c", 11+len(s)+len(u))
			e := binary(api.Op(j), binary(api.Op(i), a, b), c)
			if tight[j] > tight[i] {
				e = binary(api.Op(i), a, binary(api.Op(j), b, c))
			}
			checkBlock(t, "a=a"+s+"b"+u+"c;", api.Stmt{Kind: api.Assign, Name: "a", Exprs: []api.Expr{e}, At: 7})
			b.At++
			c.At++
			checkBlock(t, "a=a"+s+"(b"+u+"c);", api.Stmt{Kind: api.Assign, Name: "a", Exprs: []api.Expr{binary(api.Op(i), a, binary(api.Op(j), b, c))}, At: 7})
			a.At, c.At = 10, c.At+1
			checkBlock(t, "a=(a"+s+"b)"+u+"c;", api.Stmt{Kind: api.Assign, Name: "a", Exprs: []api.Expr{binary(api.Op(j), binary(api.Op(i), a, b), c)}, At: 7})
		}
	}
}

// writer writes a program as it makes it, with gaps and brackets as they come, and notes where each part begins.
type writer struct {
	*rand.Rand
	strings.Builder
}

func (w *writer) put(s string) int {
	gaps := []string{" ", "\n", "\t", "\r", "# thread { a = \xff;\n", "  ", " #\n#\n"}
	word := func(c byte) bool { return c >= 'a' && c <= 'z' || c >= '0' && c <= '9' || c == '_' }
	last := w.String()
	if w.Len() > 0 && (word(last[w.Len()-1]) && word(s[0]) || strings.ContainsRune("<>=", rune(last[w.Len()-1]))) {
		w.WriteString(" ")
	}
	for w.IntN(3) == 0 {
		w.WriteString(gaps[w.IntN(len(gaps))])
	}
	at := w.Len()
	w.WriteString(s)
	return at
}

func (w *writer) word() string {
	words := []string{"a", "b", "_", "x1", "picks", "if_", "ends", "lock1"}
	return words[w.IntN(len(words))]
}

// expr is an expression that binds at least so tight.
func (w *writer) expr(deep, least int) api.Expr {
	if deep == 0 {
		if w.IntN(2) == 0 {
			n := w.Uint64() >> w.IntN(64)
			return lit(n, w.put(strings.Repeat("0", w.IntN(2))+tree.Expr(lit(n, 0), 0)))
		}
		s := w.word()
		return name(s, w.put(s))
	}
	texts, tight := signs()
	op := w.IntN(len(texts))
	switch w.IntN(6) {
	case 0:
		w.put("(")
		e := w.expr(deep-1, 0)
		w.put(")")
		return e
	case 1:
		at := w.put("~")
		return not(w.expr(deep-1, 9), at)
	case 2:
		s := w.word()
		at := w.put(s)
		w.put("[")
		e := w.expr(deep-1, 0)
		w.put("]")
		return cell(s, e, at)
	case 3:
		at := w.put("pick")
		var kids []api.Expr
		for _, s := range []string{"(", ",", ","} {
			w.put(s)
			kids = append(kids, w.expr(w.IntN(deep), 0))
		}
		w.put(")")
		return pick(kids[0], kids[1], kids[2], at)
	}
	if tight[op] < least {
		return w.expr(deep-1, least)
	}
	a := w.expr(deep-1, tight[op])
	w.put(texts[op])
	return binary(api.Op(op), a, w.expr(deep-1, tight[op]+1))
}

func (w *writer) block(deep int) []api.Stmt {
	var ss []api.Stmt
	w.put("{")
	for range w.IntN(3) + deep/3 {
		ss = append(ss, w.stmt(deep))
	}
	w.put("}")
	return ss
}

func (w *writer) stmt(deep int) api.Stmt {
	kind := api.StmtKind(w.IntN(10))
	if deep == 0 && (kind == api.If || kind == api.Loop) {
		kind = api.Fence
	}
	s := api.Stmt{Kind: kind}
	value := func() { s.Exprs = append(s.Exprs, w.expr(w.IntN(4), 0)) }
	named := func(key string) {
		s.Name = w.word()
		s.At = w.put(key)
		w.put(s.Name)
	}
	switch kind {
	case api.If:
		s.At = w.put("if")
		w.put("(")
		value()
		w.put(")")
		s.Body = w.block(deep - 1)
		if w.IntN(2) == 0 {
			w.put("else")
			s.Else = w.block(deep - 1)
		}
		return s
	case api.Loop:
		named("loop")
		s.Count = 1 + w.IntN(256)
		w.put(tree.Expr(lit(uint64(s.Count), 0), 0))
		s.Body = w.block(deep - 1)
		return s
	case api.Local:
		named("local")
		w.put("=")
		value()
	case api.Take:
		named("take")
	case api.Give:
		named("give")
	case api.Bump:
		named("add")
		value()
	case api.Fence:
		s.At = w.put("fence")
	case api.Output:
		s.At = w.put("output")
		value()
	case api.Assign, api.Store:
		s.Name = w.word()
		s.At = w.put(s.Name)
		if kind == api.Store {
			w.put("[")
			value()
			w.put("]")
		}
		w.put("=")
		value()
	}
	w.put(";")
	return s
}

func (w *writer) decl() api.Decl {
	d := api.Decl{Name: w.word()}
	switch w.IntN(3) {
	case 0:
		d.Lock, d.At = true, w.put("lock")
		w.put(d.Name)
		w.put(";")
		return d
	case 1:
		d.At = w.put("public")
	case 2:
		d.Label, d.At = api.Secret, w.put("secret")
	}
	w.put(d.Name)
	if w.IntN(2) == 0 {
		d.Size = 1 + w.IntN(64)
		w.put("[")
		w.put(tree.Expr(lit(uint64(d.Size), 0), 0))
		w.put("]")
	}
	if w.IntN(2) == 0 {
		d.By = w.word()
		w.put("by")
		w.put(d.By)
	}
	w.put(";")
	return d
}

// Programs of every form, as they are written with all kinds of gaps and brackets, and as tree writes them.
func TestProgramWritten(t *testing.T) {
	for seed := range uint64(3000) {
		w := &writer{Rand: newRandom(seed)}
		var p api.Program
		for range w.IntN(4) {
			p.Decls = append(p.Decls, w.decl())
		}
		for range 1 + w.IntN(2) {
			w.put("thread")
			p.Threads = append(p.Threads, w.block(w.IntN(5)))
		}
		checkProgram(t, w.String(), p)
		again, err := Program(tree.Text(p))
		if err != nil || !tree.Same(again, p) {
			t.Errorf("%q: %v", tree.Text(p), err)
		}
	}
}

// The error of lex is told ahead of all others, wherever it stands.
func TestProgramLexErrors(t *testing.T) {
	for s, at := range map[string]int{"?": 0, "thread { } ?": 11, "; thread >": 9, "public a[65]; 2a": 14, "a\xff": 1, "thread { a = 18446744073709551616; }": 13} {
		checkFault(t, s, api.ErrLex, at)
	}
	long := "thread { }" + strings.Repeat(" ", api.MaxText-10)
	checkProgram(t, long, api.Program{Threads: [][]api.Stmt{nil}})
	checkFault(t, long+" ", api.ErrLimit, 0)
	checkFault(t, long+"?", api.ErrLimit, 0)
	checkFault(t, strings.Repeat(";", api.MaxText+1), api.ErrLimit, 0)
	checkFault(t, strings.Repeat(";", api.MaxText), api.ErrParse, 0)
}

// Names are not pieces of what was handed in.
func TestProgramNewMemory(t *testing.T) {
	text := []byte("public abc by def; thread { ghi = jkl[1]; loop mno 3 { } }")
	want, _ := Program(string(text))
	before := string(text)
	got, err := Program(unsafe.String(&text[0], len(text)))
	if err != nil || string(text) != before {
		t.Fatal(string(text), err)
	}
	for i := range text {
		text[i] = '?'
	}
	if !reflect.DeepEqual(got, want) || got.Decls[0].Name != "abc" || got.Threads[0][0].Exprs[0].Name != "jkl" {
		t.Error(got)
	}
	again, _ := Program(before)
	again.Decls[0].Name = "x"
	again.Threads[0][0].Exprs[0].Kids[0].Value = 9
	if third, _ := Program(before); !reflect.DeepEqual(third, want) || !reflect.DeepEqual(got, want) {
		t.Error(third)
	}
}

// Any bytes have a program, or one of three errors at a place of theirs.
func TestProgramAnyBytes(t *testing.T) {
	r := newRandom(8)
	const letters = "ab1;=[]{}(),+<~> \n#?\xff"
	for range 20000 {
		s := []string{"", "thread {", "thread { output ", everything}[r.IntN(4)]
		b := []byte(s)
		for range r.IntN(8) {
			at := r.IntN(len(b) + 1)
			b = append(b[:at], append([]byte{letters[r.IntN(len(letters))]}, b[at:]...)...)
		}
		p, err := Program(string(b))
		if err == nil {
			if len(p.Threads) == 0 {
				t.Errorf("%q: no threads", b)
			}
			continue
		}
		n, at := api.Number(err), api.Place(err)
		if n != api.ErrLex && n != api.ErrParse && n != api.ErrLimit || at < 0 || at > len(b) || !reflect.DeepEqual(p, api.Program{}) {
			t.Errorf("%q: %v, %v", b, p, err)
		}
		if _, e := lex.Cut(string(b)); e != nil && !errors.Is(err, api.Number(e)) {
			t.Errorf("%q: %v, not %v", b, err, e)
		}
	}
}
