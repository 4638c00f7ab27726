package tree

import (
	"math"
	"reflect"
	"strconv"
	"strings"
	"testing"
	"unsafe"

	"tautochrone/api"
)

func name(s string) api.Expr { return api.Expr{Kind: api.Name, Name: s} }

func lit(n uint64) api.Expr { return api.Expr{Kind: api.Literal, Value: n} }

func not(kids ...api.Expr) api.Expr { return api.Expr{Kind: api.Not, Kids: kids} }

func cell(s string, kids ...api.Expr) api.Expr { return api.Expr{Kind: api.Cell, Name: s, Kids: kids} }

func pick(kids ...api.Expr) api.Expr { return api.Expr{Kind: api.Pick, Kids: kids} }

func binary(op api.Op, kids ...api.Expr) api.Expr {
	return api.Expr{Kind: api.Binary, Op: op, Kids: kids}
}

func checkExpr(t *testing.T, e api.Expr, tight int, want string) {
	t.Helper()
	if s := Expr(e, tight); s != want {
		t.Errorf("Expr(%v, %d) = %q, not %q", e, tight, s, want)
	}
}

// signs are the operators' signs, and how tight they bind, written out anew.
func signs() ([]string, []int) {
	return []string{"+", "-", "*", "&", "|", "^", "<<", ">>", "==", "<"}, []int{6, 6, 7, 4, 1, 2, 5, 5, 3, 3}
}

func TestExprExamples(t *testing.T) {
	a, b, c := name("a"), name("b"), name("c")
	checkExpr(t, binary(api.Mul, binary(api.Add, a, b), lit(3)), 0, "(a + b) * 3")
	checkExpr(t, binary(api.Sub, a, binary(api.Sub, b, c)), 0, "a - (b - c)")
	checkExpr(t, binary(api.Sub, binary(api.Sub, a, b), c), 0, "a - b - c")
	checkExpr(t, binary(api.Add, binary(api.Mul, a, b), binary(api.Mul, b, c)), 0, "a * b + b * c")
	checkExpr(t, binary(api.Or, binary(api.Xor, a, b), binary(api.Or, b, c)), 0, "a ^ b | (b | c)")
	checkExpr(t, binary(api.And, binary(api.Equal, a, b), binary(api.Less, b, c)), 0, "(a == b) & (b < c)")
	checkExpr(t, pick(binary(api.Or, a, b), cell("x", binary(api.Or, a, lit(1))), pick(a, b, c)), 9, "pick(a | b, x[a | 1], pick(a, b, c))")
	checkExpr(t, not(binary(api.Mul, not(not(a)), cell("x", not(b)))), 0, "~(~~a * x[~b])")
}

// What is one thing has no brackets, however tight it is asked.
func TestExprOneThing(t *testing.T) {
	for want, e := range map[string]api.Expr{
		"0": lit(0), "7": lit(7), "18446744073709551615": lit(math.MaxUint64), "9223372036854775808": lit(1 << 63),
		"a": name("a"), "": name(""), "a b\n?": name("a b\n?"), "\xff": name("\xff"),
		"x[0]": cell("x", lit(0)), "[a]": cell("", name("a")), "x[y[z]]": cell("x", cell("y", name("z"))), "x[a | b]": cell("x", binary(api.Or, name("a"), name("b"))),
		"~0": not(lit(0)), "~~a": not(not(name("a"))), "~~~x[a]": not(not(not(cell("x", name("a"))))), "~(a * b)": not(binary(api.Mul, name("a"), name("b"))),
		"~pick(1, 2, 3)": not(pick(lit(1), lit(2), lit(3))), "pick(a | 1, ~b, c)": pick(binary(api.Or, name("a"), lit(1)), not(name("b")), name("c")),
		"x[?]": cell("x"), "~?": not(), "pick(?, ?, ?)": pick(), "pick(1, ?, ?)": pick(lit(1)), "pick(1, 2, ?)": pick(lit(1), lit(2)),
		"x[1]": cell("x", lit(1), lit(2)), "~1": not(lit(1), lit(2)), "pick(1, 2, 3)": pick(lit(1), lit(2), lit(3), lit(4)),
		"5": {Kind: api.Literal, Op: api.Mul, Name: "a", Value: 5, Kids: []api.Expr{lit(1)}, At: 9},
		"b": {Kind: api.Name, Op: api.Mul, Name: "b", Value: 5, Kids: []api.Expr{lit(1)}, At: 9},
	} {
		for _, tight := range []int{math.MinInt, -1, 0, 1, 7, 8, 9, 10, math.MaxInt} {
			checkExpr(t, e, tight, want)
		}
	}
}

func TestExprNothing(t *testing.T) {
	a, b := name("a"), name("b")
	for _, op := range []api.Op{-1, 10, 11, math.MinInt, math.MaxInt, 1 << 32} {
		for _, tight := range []int{math.MinInt, -1, 0, 1, 9, math.MaxInt} {
			checkExpr(t, binary(op, a, b), tight, "?")
			checkExpr(t, binary(op), tight, "?")
		}
		checkExpr(t, not(binary(op, a, b)), 0, "~?")
		checkExpr(t, binary(api.Mul, binary(op, a, b), binary(op)), 0, "? * ?")
	}
	for _, kind := range []api.ExprKind{-1, 6, 7, math.MinInt, math.MaxInt, 1 << 32} {
		e := api.Expr{Kind: kind, Op: api.Add, Name: "a", Value: 1, Kids: []api.Expr{a, b, a}}
		for _, tight := range []int{math.MinInt, -1, 0, 1, 9, math.MaxInt} {
			checkExpr(t, e, tight, "?")
		}
		checkExpr(t, pick(e, cell("x", e), not(e)), 0, "pick(?, x[?], ~?)")
	}
	texts, tights := signs()
	for op, sign := range texts {
		op, tight := api.Op(op), tights[op]
		checkExpr(t, binary(op), tight, "? "+sign+" ?")
		checkExpr(t, binary(op), tight+1, "(? "+sign+" ?)")
		checkExpr(t, binary(op, a), 0, "a "+sign+" ?")
		checkExpr(t, binary(op, a, b, a), 0, "a "+sign+" b")
	}
}

// Each operator at each tightness, by itself.
func TestExprTight(t *testing.T) {
	texts, tights := signs()
	for op, sign := range texts {
		s := "a " + sign + " 1"
		for tight := -2; tight < 12; tight++ {
			want := s
			if tights[op] < tight {
				want = "(" + s + ")"
			}
			checkExpr(t, binary(api.Op(op), name("a"), lit(1)), tight, want)
		}
		checkExpr(t, binary(api.Op(op), name("a"), lit(1)), math.MinInt, s)
		checkExpr(t, binary(api.Op(op), name("a"), lit(1)), math.MaxInt, "("+s+")")
		checkExpr(t, not(binary(api.Op(op), name("a"), lit(1))), 0, "~("+s+")")
		checkExpr(t, cell("x", binary(api.Op(op), name("a"), lit(1))), 9, "x["+s+"]")
		checkExpr(t, pick(binary(api.Op(op), name("a"), lit(1)), binary(api.Op(op), name("a"), lit(1)), binary(api.Op(op), name("a"), lit(1))), 9, "pick("+s+", "+s+", "+s+")")
	}
}

// Each two operators, the second one on either side of the first.
func TestExprPairs(t *testing.T) {
	texts, tights := signs()
	for o, outer := range texts {
		for i, inner := range texts {
			in := binary(api.Op(i), name("b"), name("c"))
			left, right := "b "+inner+" c", "b "+inner+" c"
			if tights[i] < tights[o] {
				left = "(" + left + ")"
			}
			if tights[i] <= tights[o] {
				right = "(" + right + ")"
			}
			checkExpr(t, binary(api.Op(o), in, name("a")), 0, left+" "+outer+" a")
			checkExpr(t, binary(api.Op(o), name("a"), in), 0, "a "+outer+" "+right)
			checkExpr(t, binary(api.Op(o), in, in), 8, "("+left+" "+outer+" "+right+")")
		}
	}
}

// reader reads expressions of names of one letter and operators, to hold texts against trees.
type reader struct {
	words []string
}

func (r *reader) next() string {
	if len(r.words) == 0 {
		return ""
	}
	return r.words[0]
}

func (r *reader) expr(least int) api.Expr {
	w := r.next()
	r.words = r.words[1:]
	left := name(w)
	switch w {
	case "(":
		left = r.expr(0)
		r.words = r.words[1:]
	case "~":
		left = not(r.expr(8))
	}
	texts, tights := signs()
	for {
		op := -1
		for i, s := range texts {
			if s == r.next() && tights[i] >= least {
				op = i
			}
		}
		if op < 0 {
			return left
		}
		r.words = r.words[1:]
		left = binary(api.Op(op), left, r.expr(tights[op]+1))
	}
}

// Trees of three operators, in each form: the text stands for the tree, and no bracket is too many.
func TestExprReadBack(t *testing.T) {
	spaced := strings.NewReplacer("(", "( ", ")", " )", "~", "~ ")
	read := func(s string) api.Expr {
		r := &reader{strings.Fields(spaced.Replace(s))}
		return r.expr(0)
	}
	x, y, z, w := name("x"), name("y"), name("z"), name("w")
	for a := api.Add; a <= api.Less; a++ {
		for b := api.Add; b <= api.Less; b++ {
			for c := api.Add; c <= api.Less; c++ {
				for _, e := range []api.Expr{
					binary(a, binary(b, x, y), binary(c, z, w)), binary(a, binary(b, binary(c, x, y), z), w), binary(a, binary(b, x, binary(c, y, z)), w),
					binary(a, x, binary(b, y, binary(c, z, w))), binary(a, x, binary(b, binary(c, y, z), w)), binary(a, not(binary(b, x, not(y))), not(not(binary(c, z, w)))),
				} {
					s := Expr(e, 0)
					if got := read(s); !reflect.DeepEqual(got, e) {
						t.Fatalf("Expr(%v, 0) = %q, which is %v", e, s, got)
					}
					if in, ok := without(s); ok && reflect.DeepEqual(read(in), e) {
						t.Fatalf("Expr(%v, 0) = %q, as well as %q", e, s, in)
					}
				}
			}
		}
	}
}

// without is a text without its first bracket and the one that ends it.
func without(s string) (string, bool) {
	at, deep := strings.IndexByte(s, '('), 0
	if at < 0 {
		return "", false
	}
	for i := at; i < len(s); i++ {
		switch s[i] {
		case '(':
			deep++
		case ')':
			deep--
		}
		if deep == 0 {
			return s[:at] + s[at+1:i] + s[i+1:], true
		}
	}
	return "", false
}

func TestTextDecls(t *testing.T) {
	for want, d := range map[string]api.Decl{
		"lock l;":            {Lock: true, Name: "l"},
		"lock m;":            {Lock: true, Label: api.Secret, Name: "m", Size: 3, By: "l", At: 4},
		"lock ;":             {Lock: true, Size: -1},
		"public a;":          {Name: "a"},
		"secret a;":          {Label: api.Secret, Name: "a"},
		"secret b;":          {Label: 2, Name: "b"},
		"secret c;":          {Label: -1, Name: "c"},
		"secret d[2];":       {Label: math.MaxInt, Name: "d", Size: 2},
		"public x[1];":       {Name: "x", Size: 1},
		"public x[64];":      {Name: "x", Size: 64, At: 8},
		"public e;":          {Name: "e", Size: -1},
		"public f;":          {Name: "f", Size: math.MinInt},
		"public a by l;":     {Name: "a", By: "l"},
		"secret a by l;":     {Label: api.Secret, Name: "a", By: "l"},
		"secret x[10] by l;": {Label: api.Secret, Name: "x", Size: 10, By: "l"},
		"public ;":           {},
		"public  by ?;":      {By: "?"},
		"public y[" + strconv.Itoa(math.MaxInt) + "];": {Name: "y", Size: math.MaxInt},
	} {
		if s := Text(api.Program{Decls: []api.Decl{d}}); s != want+"\n" {
			t.Errorf("Text of %v: %q, not %q", d, s, want)
		}
	}
	p := api.Program{Decls: []api.Decl{{Name: "b"}, {Lock: true, Name: "a"}, {Name: "b", Label: api.Secret}}}
	if s := Text(p); s != "public b;\nlock a;\nsecret b;\n" {
		t.Errorf("Text(%v) = %q", p, s)
	}
}

func TestTextStmts(t *testing.T) {
	a, sum := name("a"), binary(api.Or, name("a"), lit(1))
	for want, s := range map[string]api.Stmt{
		"local v = a | 1;":  {Kind: api.Local, Name: "v", Exprs: []api.Expr{sum}},
		"v = a | 1;":        {Kind: api.Assign, Name: "v", Exprs: []api.Expr{sum}},
		"v[a | 1] = a;":     {Kind: api.Store, Name: "v", Exprs: []api.Expr{sum, a}},
		"v[a] = a | 1;":     {Kind: api.Store, Name: "v", Exprs: []api.Expr{a, sum, a}},
		"take l;":           {Kind: api.Take, Name: "l"},
		"give l;":           {Kind: api.Give, Name: "l"},
		"take m;":           {Kind: api.Take, Name: "m", Exprs: []api.Expr{a}, Count: 1, Body: []api.Stmt{{}}, Else: []api.Stmt{{}}},
		"add v a | 1;":      {Kind: api.Bump, Name: "v", Exprs: []api.Expr{sum}},
		"fence;":            {Kind: api.Fence},
		"output a | 1;":     {Kind: api.Output, Exprs: []api.Expr{sum}},
		"output a;":         {Kind: api.Output, Name: "v", Exprs: []api.Expr{a, sum}, Count: 1, Body: []api.Stmt{{}}},
		"local v = ?;":      {Kind: api.Local, Name: "v"},
		"v = ?;":            {Kind: api.Assign, Name: "v"},
		"v[?] = ?;":         {Kind: api.Store, Name: "v"},
		"v[a] = ?;":         {Kind: api.Store, Name: "v", Exprs: []api.Expr{a}},
		"add v ?;":          {Kind: api.Bump, Name: "v"},
		"output ?;":         {Kind: api.Output},
		"output 5;":         {Kind: 10, Exprs: []api.Expr{lit(5)}},
		"output 6;":         {Kind: -1, Name: "v", Exprs: []api.Expr{lit(6)}, Body: []api.Stmt{{}}},
		"output 7;":         {Kind: math.MaxInt, Exprs: []api.Expr{lit(7)}},
		"output ~?;":        {Kind: math.MinInt, Exprs: []api.Expr{not()}},
		"if (?) {\n\t}":     {Kind: api.If},
		"if (a | 1) {\n\t}": {Kind: api.If, Name: "v", Exprs: []api.Expr{sum}, Else: []api.Stmt{}},
		"loop i 0 {\n\t}":   {Kind: api.Loop, Name: "i"},
		"loop j 256 {\n\t}": {Kind: api.Loop, Name: "j", Count: 256, Exprs: []api.Expr{a}, Else: []api.Stmt{{}}},
		"loop k -7 {\n\t}":  {Kind: api.Loop, Name: "k", Count: -7},
	} {
		checkBlock(t, []api.Stmt{s}, want)
	}
	fence := api.Stmt{Kind: api.Fence}
	checkBlock(t, []api.Stmt{fence, fence}, "fence;\n\tfence;")
	checkBlock(t, []api.Stmt{{Kind: api.If, Exprs: []api.Expr{a}, Body: []api.Stmt{fence}}}, "if (a) {\n\t\tfence;\n\t}")
}

// checkBlock wants those lines in a thread, the first one's tabulator left out.
func checkBlock(t *testing.T, stmts []api.Stmt, want string) {
	t.Helper()
	want = "thread {\n\t" + want + "\n}\n"
	if s := Text(api.Program{Threads: [][]api.Stmt{stmts}}); s != want {
		t.Errorf("Text of %v: %q, not %q", stmts, s, want)
	}
}

func whole() api.Program {
	a := name("a")
	out := api.Stmt{Kind: api.Output, Exprs: []api.Expr{lit(1)}, At: 3}
	inner := api.Stmt{Kind: api.If, Exprs: []api.Expr{not(a)}, Body: []api.Stmt{out}, Else: []api.Stmt{{Kind: api.Loop, Name: "j", Count: 2, Body: []api.Stmt{out, out}}, {Kind: api.Fence}}}
	return api.Program{
		Decls: []api.Decl{{Lock: true, Name: "l"}, {Name: "a", At: 8}, {Label: api.Secret, Name: "x", Size: 4, By: "l"}},
		Threads: [][]api.Stmt{
			{{Kind: api.Take, Name: "l"}, {Kind: api.Loop, Name: "i", Count: 4, Body: []api.Stmt{{Kind: api.Store, Name: "x", Exprs: []api.Expr{name("i"), pick(a, cell("x", lit(0)), lit(2))}}, inner}}, {Kind: api.Give, Name: "l"}},
			nil,
			{{Kind: api.If, Exprs: []api.Expr{a}, Else: []api.Stmt{{Kind: api.Bump, Name: "a", Exprs: []api.Expr{lit(3)}}}}, {Kind: api.Local, Name: "v", Exprs: []api.Expr{binary(api.Shl, a, lit(1))}}},
		},
	}
}

const wholeText = `lock l;
public a;
secret x[4] by l;
thread {
	take l;
	loop i 4 {
		x[i] = pick(a, x[0], 2);
		if (~a) {
			output 1;
		} else {
			loop j 2 {
				output 1;
				output 1;
			}
			fence;
		}
	}
	give l;
}
thread {
}
thread {
	if (a) {
	} else {
		add a 3;
	}
	local v = a << 1;
}
`

func TestTextWhole(t *testing.T) {
	if s := Text(whole()); s != wholeText {
		t.Errorf("Text: %s", s)
	}
	if s := Text(api.Program{}); s != "" {
		t.Errorf("Text of nothing: %q", s)
	}
	if s := Text(api.Program{Threads: [][]api.Stmt{nil, {}}}); s != "thread {\n}\nthread {\n}\n" {
		t.Errorf("Text of threads without statements: %q", s)
	}
}

// checkSame asks both ways round.
func checkSame(t *testing.T, a, b api.Program, want bool, what string) {
	t.Helper()
	if Same(a, b) != want || Same(b, a) != want {
		t.Errorf("%s: Same %v and %v, not %v", what, Same(a, b), Same(b, a), want)
	}
}

func TestSame(t *testing.T) {
	checkSame(t, whole(), whole(), true, "whole")
	checkSame(t, api.Program{}, api.Program{}, true, "nothing")
	checkSame(t, api.Program{}, whole(), false, "nothing and whole")
	empty := api.Program{Decls: []api.Decl{}, Threads: [][]api.Stmt{}}
	checkSame(t, api.Program{}, empty, true, "nil and empty")
	checkSame(t, api.Program{Threads: [][]api.Stmt{nil}}, api.Program{Threads: [][]api.Stmt{{}}}, true, "nil and empty threads")
	checkSame(t, api.Program{Threads: [][]api.Stmt{nil}}, empty, false, "a thread without statements, and none")
	of := func(s api.Stmt) api.Program { return api.Program{Threads: [][]api.Stmt{{s}}} }
	full := api.Stmt{Exprs: []api.Expr{}, Body: []api.Stmt{}, Else: []api.Stmt{}}
	checkSame(t, of(api.Stmt{}), of(full), true, "nil and empty lists of a statement")
	checkSame(t, of(api.Stmt{Exprs: []api.Expr{{}}}), of(api.Stmt{Exprs: []api.Expr{{Kids: []api.Expr{}}}}), true, "nil and empty kids")
	checkSame(t, of(api.Stmt{Body: []api.Stmt{full}}), of(api.Stmt{Else: []api.Stmt{full}}), false, "Body and Else")
	turned := whole()
	turned.Threads[0], turned.Threads[2] = turned.Threads[2], turned.Threads[0]
	checkSame(t, whole(), turned, false, "threads in another order")
	turned = whole()
	turned.Decls[0], turned.Decls[1] = turned.Decls[1], turned.Decls[0]
	checkSame(t, whole(), turned, false, "declarations in another order")
}

// places go to each number, text, bool and list of a value, with its path.
func places(v reflect.Value, path string, visit func(string, reflect.Value)) {
	switch v.Kind() {
	case reflect.Struct:
		for i := range v.NumField() {
			places(v.Field(i), path+"."+v.Type().Field(i).Name, visit)
		}
	case reflect.Slice:
		visit(path, v)
		for i := range v.Len() {
			places(v.Index(i), path+"["+strconv.Itoa(i)+"]", visit)
		}
	default:
		visit(path, v)
	}
}

// variants are other values for a place.
func variants(v reflect.Value) []reflect.Value {
	var out []reflect.Value
	add := func(x any) { out = append(out, reflect.ValueOf(x).Convert(v.Type())) }
	switch v.Kind() {
	case reflect.Bool:
		add(!v.Bool())
	case reflect.String:
		add(v.String() + "_")
		add(strings.ToUpper(v.String()) + "x")
	case reflect.Int:
		add(v.Int() + 1)
		add(v.Int() - 1)
		add(v.Int() ^ 1<<62)
	case reflect.Uint64:
		add(v.Uint() + 1)
		add(v.Uint() ^ 1<<63)
	case reflect.Slice:
		more := reflect.New(v.Type().Elem()).Elem()
		out = append(out, reflect.Append(v.Slice3(0, v.Len(), v.Len()), more))
		if v.Len() > 0 {
			out = append(out, v.Slice(1, v.Len()), v.Slice(0, v.Len()-1))
		}
	}
	return out
}

// Programs that part in one place alone, whichever it is, are others; but for At, everywhere.
func TestSameOnePlace(t *testing.T) {
	base, other := whole(), whole()
	count := 0
	places(reflect.ValueOf(&other).Elem(), "", func(path string, v reflect.Value) {
		old := reflect.New(v.Type()).Elem()
		old.Set(v)
		for _, x := range variants(v) {
			v.Set(x)
			checkSame(t, base, other, strings.HasSuffix(path, ".At"), path)
			count++
		}
		v.Set(old)
	})
	if count < 400 {
		t.Errorf("%d places alone", count)
	}
	checkSame(t, base, other, true, "as it was")
}

func TestSameWhereverParts(t *testing.T) {
	other, at := whole(), 100
	places(reflect.ValueOf(&other).Elem(), "", func(path string, v reflect.Value) {
		if strings.HasSuffix(path, ".At") {
			v.SetInt(int64(at))
			at += 7
		}
	})
	checkSame(t, whole(), other, true, "all At")
	other.Threads[0][1].Body[1].Else[0].Body[1].Exprs[0].Value++
	checkSame(t, whole(), other, false, "all At, and a value")
}

func TestNothingIsChanged(t *testing.T) {
	p, q := whole(), whole()
	Text(p)
	Same(p, q)
	Expr(p.Threads[0][1].Body[0].Exprs[1], 3)
	if !reflect.DeepEqual(p, whole()) || !reflect.DeepEqual(q, whole()) {
		t.Error("a program was changed")
	}
}

// A text shares no memory with names.
func TestNewMemory(t *testing.T) {
	memory := []byte("abc")
	s := unsafe.String(&memory[0], len(memory))
	texts := []string{
		Expr(name(s), 0), Expr(cell(s, name(s)), 0),
		Text(api.Program{Decls: []api.Decl{{Name: s, By: s}, {Lock: true, Name: s}}, Threads: [][]api.Stmt{{{Kind: api.Take, Name: s}}}}),
	}
	want := []string{"abc", "abc[abc]", "public abc by abc;\nlock abc;\nthread {\n\ttake abc;\n}\n"}
	copy(memory, "???")
	for i := range want {
		if texts[i] != want[i] {
			t.Errorf("%q became %q", want[i], texts[i])
		}
	}
}

func TestDeep(t *testing.T) {
	const deep = 1 << 16
	e, s, wide := lit(1), api.Stmt{Kind: api.Fence}, lit(1)
	for range deep {
		e = not(e)
		wide = binary(api.Sub, lit(2), wide)
	}
	checkSame(t, api.Program{Threads: [][]api.Stmt{{{Exprs: []api.Expr{e}}}}}, api.Program{Threads: [][]api.Stmt{{{Exprs: []api.Expr{e}}}}}, true, "deep")
	if Expr(e, 0) != strings.Repeat("~", deep)+"1" {
		t.Error("a deep ~")
	}
	if Expr(wide, 0) != strings.Repeat("2 - (", deep-1)+"2 - 1"+strings.Repeat(")", deep-1) {
		t.Error("a deep -")
	}
	for range 1000 {
		s = api.Stmt{Kind: api.If, Else: []api.Stmt{s}}
	}
	text := Text(api.Program{Threads: [][]api.Stmt{{s}}})
	if !strings.Contains(text, "\n"+strings.Repeat("\t", 1001)+"fence;\n"+strings.Repeat("\t", 1000)+"}\n") {
		t.Error("a deep if")
	}
}
