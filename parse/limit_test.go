package parse

import (
	"strconv"
	"strings"
	"testing"

	"tautochrone/api"
)

func checkGood(t *testing.T, s string) api.Program {
	t.Helper()
	p, err := Program(s)
	if err != nil {
		t.Errorf("%.300q: %v", s, err)
	}
	return p
}

func TestProgramSizes(t *testing.T) {
	for n := 1; n <= 64; n++ {
		for _, s := range []string{strconv.Itoa(n), "0" + strconv.Itoa(n)} {
			if p := checkGood(t, "secret a["+s+"]; thread { }"); p.Decls[0].Size != n {
				t.Error(n, p)
			}
		}
	}
	for _, s := range []string{"0", "00", "65", "065", "257", "4294967297", "9223372036854775809", "18446744073709551615"} {
		checkFault(t, "secret a["+s+"]; thread { }", api.ErrLimit, 9)
		checkFault(t, "secret a[ "+s+";", api.ErrLimit, 10)
	}
	for _, s := range []string{"", "a", "]", "-1", "by", "(1)", ";"} {
		checkFault(t, "secret a["+s+"]; thread { }", api.ErrParse, 9)
	}
}

func TestProgramCounts(t *testing.T) {
	for n := 1; n <= 256; n++ {
		if p := checkGood(t, "thread { loop i "+strconv.Itoa(n)+" { } }"); p.Threads[0][0].Count != n {
			t.Error(n, p)
		}
	}
	for _, s := range []string{"0", "257", "0257", "4294967297", "9223372036854775809", "18446744073709551615"} {
		checkFault(t, "thread { loop i "+s+" { } }", api.ErrLimit, 16)
		checkFault(t, "thread { loop i "+s+" ;", api.ErrLimit, 16)
	}
	for _, s := range []string{"", "a", "{", "-1", "~1", "(1)", ";", "if"} {
		checkFault(t, "thread { loop i "+s+"{ } }", api.ErrParse, 16)
	}
}

func TestProgramManyDecls(t *testing.T) {
	for _, d := range []string{"lock l;", "public a;", "secret a[64] by l;"} {
		full := strings.Repeat(d, 64)
		if p := checkGood(t, full+"thread { }"); len(p.Decls) != 64 || p.Decls[63].At != 63*len(d) {
			t.Error(len(p.Decls))
		}
		// Whatever is no thread is told there, even what no declaration begins with.
		for _, s := range []string{d, "", ";", "}", "{", "a", "1", "public", "lock", "secret", "public 1", "if"} {
			checkFault(t, full+" # \n "+s, api.ErrLimit, len(full)+5)
		}
		checkFault(t, full+d+"thread { }", api.ErrLimit, len(full))
		checkFault(t, full[len(d):]+";", api.ErrParse, len(full)-len(d))
		checkFault(t, full[len(d):]+"public 1;", api.ErrParse, len(full)-len(d)+7)
		checkFault(t, full[len(d):], api.ErrParse, len(full)-len(d))
		checkFault(t, full+"thread", api.ErrParse, len(full)+6)
		checkFault(t, full+"thread { } "+d, api.ErrParse, len(full)+11)
	}
}

func TestProgramManyThreads(t *testing.T) {
	const one = "thread{fence;}"
	full := strings.Repeat(one, 16)
	if p := checkGood(t, full+" "); len(p.Threads) != 16 || p.Threads[15][0].At != 15*len(one)+7 {
		t.Error(len(p.Threads))
	}
	for _, s := range []string{one, "thread", "public a;", ";", "}", "a", "1"} {
		checkFault(t, full+" "+s, api.ErrLimit, len(full)+1)
	}
	for _, s := range []string{"public a;", ";", "}", "a", "1"} {
		checkFault(t, full[len(one):]+" "+s, api.ErrParse, len(full)-len(one)+1)
	}
	checkFault(t, full[:len(full)-1], api.ErrParse, len(full)-1)
}

// Each way in which an expression stands in another one.
func TestProgramDeepExpressions(t *testing.T) {
	const head = "thread{output "
	for _, n := range []struct{ open, close string }{
		{"(", ")"}, {"~", ""}, {"a[", "]"}, {"pick(", ",1,2)"}, {"( # (\n", " )"}, {"~ ", " "},
	} {
		deep := func(k int, inner string) string {
			return head + strings.Repeat(n.open, k) + inner + strings.Repeat(n.close, k) + ";}"
		}
		at := func(k int) int { return len(head) + k*len(n.open) }
		// The statement is one, and the first expression another one.
		for k := range 39 {
			checkGood(t, deep(k, "1"))
			checkGood(t, deep(k, "1")+deep(k, "a"))
		}
		for _, s := range []string{"1", "a", "a[1]", "~1", "(1)", "pick(1,2,3)", "1+2", "1;"} {
			checkFault(t, deep(39, s), api.ErrLimit, at(39))
		}
		// With such a token no expression begins.
		for _, s := range []string{"+", "]", "}", "=", "if", ";", ")"} {
			checkFault(t, deep(39, s), api.ErrParse, at(39))
		}
		for _, k := range []int{40, 41, 100, 3000} {
			checkFault(t, deep(k, "1"), api.ErrLimit, at(39))
			checkFault(t, deep(k, ";"), api.ErrLimit, at(39))
		}
		for _, s := range []string{"1+2", "~2", "1-2-3-4", "pick(1,2,3)*a", "a[1]", "(1)"} {
			checkGood(t, deep(37, s))
		}
		checkFault(t, deep(38, "~2"), api.ErrLimit, at(38)+1)
		checkFault(t, deep(38, "pick(;"), api.ErrParse, at(38)+5)
		checkFault(t, deep(38, "pick(1"), api.ErrLimit, at(38)+5)
		checkFault(t, deep(37, "pick(1,2,(3))"), api.ErrLimit, at(37)+10)
		checkFault(t, deep(37, "pick(1,2,3*4)"), api.ErrLimit, at(37)+11)
		checkFault(t, deep(37, "pick(1,~2,3)"), api.ErrLimit, at(37)+8)
	}
	// Here one that is as deep stands ahead.
	for _, n := range []struct{ open, close string }{{"pick(1,", ",2)"}, {"pick(1,2,", ")"}} {
		for k := range 50 {
			s := head + strings.Repeat(n.open, k) + "1" + strings.Repeat(n.close, k) + ";}"
			if k <= 38 {
				checkGood(t, s)
				continue
			}
			checkFault(t, s, api.ErrLimit, len(head)+38*len(n.open)+5)
		}
	}
}

// What stands behind an operator is one deeper than what stands ahead of it, of as tight ones all alike.
func TestProgramDeepOperators(t *testing.T) {
	const head = "thread{output "
	deep := func(k int, inner string) string {
		return head + strings.Repeat("(", k) + inner + strings.Repeat(")", k) + ";}"
	}
	const tighter, looser = "1|1^1==1&1<<1+1*1", "1*1+1>>1&1<1^1|1"
	checkGood(t, deep(31, tighter))
	checkFault(t, deep(32, tighter), api.ErrLimit, len(head)+32+len(tighter)-1)
	checkFault(t, deep(33, tighter), api.ErrLimit, len(head)+33+len(tighter)-3)
	checkGood(t, deep(31, tighter+"|"+tighter+"|1"))
	checkGood(t, deep(37, looser))
	checkFault(t, deep(38, looser), api.ErrLimit, len(head)+38+2)
	checkGood(t, deep(30, looser+"|"+tighter))
	checkFault(t, deep(32, looser+"*"+tighter), api.ErrLimit, len(head)+32+len(looser)+len(tighter))
	// The brackets begin behind an operator, so each pair of them is two.
	nest := func(k int) string { return head + strings.Repeat("1+(", k) + "1" + strings.Repeat(")", k) + ";}" }
	checkGood(t, nest(19))
	checkFault(t, nest(20), api.ErrLimit, len(head)+19*3+2)
	// A long row is not deep.
	for _, op := range []string{"+", "-", "*", "|", "<<"} {
		row := head + "1" + strings.Repeat(op+"1", 20000) + ";}"
		p := checkGood(t, row)
		e := p.Threads[0][0].Exprs[0]
		size := 1
		for e.Kind == api.Binary {
			size++
			e = e.Kids[0]
		}
		if size != 20001 {
			t.Error(op, size)
		}
	}
}

func TestProgramDeepStatements(t *testing.T) {
	const head = "thread{"
	for _, n := range []struct{ open, close string }{{"loop i 2{", "}"}, {"fence;loop i 2{", "fence;}"}} {
		deep := func(k int, inner string) string {
			return head + strings.Repeat(n.open, k) + inner + " " + strings.Repeat(n.close, k) + "}"
		}
		at := func(k int) int { return len(head) + k*len(n.open) }
		for k := range 40 {
			checkGood(t, deep(k, "fence;"))
			checkGood(t, deep(k, "fence;take a;give b;loop i 1{}"))
		}
		for _, s := range []string{"fence;", "take a;", "give a;", "add a 1;", "local a=1;", "a=1;", "a[1]=1;", "if(1){}", "loop i 1{}", "output 1;", "a", "fence fence"} {
			checkFault(t, deep(40, s), api.ErrLimit, at(40))
		}
		for _, s := range []string{";", "1", "(", "else", "thread", "pick", "by"} {
			checkFault(t, deep(40, s), api.ErrParse, at(40))
		}
		checkFault(t, deep(41, ";"), api.ErrLimit, at(40))
		checkFault(t, deep(500, ""), api.ErrLimit, at(40))
		// An expression of the fortieth statement is one too deep, in whichever place it stands.
		for s, place := range map[string]int{"add a 1;": 6, "local a=1;": 8, "a=1;": 2, "a[1]=1;": 2, "if(1){}": 3, "output 1;": 7} {
			checkGood(t, deep(38, s))
			checkFault(t, deep(39, s), api.ErrLimit, at(39)+place)
			checkFault(t, deep(38, strings.Replace(s, "1", "~1", 1)), api.ErrLimit, at(38)+place+1)
			checkFault(t, deep(38, strings.Replace(s, "1", "(1)", 1)), api.ErrLimit, at(38)+place+1)
			checkFault(t, deep(38, strings.Replace(s, "1", "1+1", 1)), api.ErrLimit, at(38)+place+2)
		}
		checkFault(t, deep(38, "a[1]=~1;"), api.ErrLimit, at(38)+6)
	}
	checkGood(t, head+strings.Repeat("loop i 2{", 40)+strings.Repeat("}", 41))
	checkFault(t, head+strings.Repeat("loop i 2{", 40), api.ErrParse, len(head)+40*9)
}

// A condition is an expression of its statement: so blocks of conditions are one less deep.
func TestProgramDeepConditions(t *testing.T) {
	const head = "thread{"
	for _, n := range []struct{ open, close string }{{"if(1){", "}"}, {"if(1){}else{", "}"}, {"if(1){", "}else{fence;}"}} {
		deep := func(k int, inner string) string {
			return head + strings.Repeat(n.open, k) + inner + strings.Repeat(n.close, k) + "}"
		}
		for k := range 40 {
			checkGood(t, deep(k, "fence;"))
		}
		checkFault(t, deep(39, "output 1;"), api.ErrLimit, len(head)+39*len(n.open)+7)
		checkFault(t, deep(40, ""), api.ErrLimit, len(head)+39*len(n.open)+3)
		checkFault(t, deep(60, ";"), api.ErrLimit, len(head)+39*len(n.open)+3)
	}
}

// Many statements in a row are not deep, and blocks that have ended do not count.
func TestProgramNotDeep(t *testing.T) {
	deepest := strings.Repeat("loop i 2{", 39) + "fence;" + strings.Repeat("}", 39)
	checkGood(t, "thread{"+strings.Repeat(deepest+"if(1){output((1));}", 100)+"}thread{"+deepest+"}")
	p := checkGood(t, "thread{"+strings.Repeat("fence;", 10000)+"}")
	if len(p.Threads[0]) != 10000 {
		t.Error(len(p.Threads[0]))
	}
}

// Of several things that are wrong the first one from the front on is told.
func TestProgramSeveralWrong(t *testing.T) {
	deep := "thread{output " + strings.Repeat("(", 39)
	for _, c := range []struct {
		text string
		n    api.Errno
		at   int
	}{
		{"public a[65]; public 1;", api.ErrLimit, 9},
		{"public 1; public a[65];", api.ErrParse, 7},
		{"public a[65; public 1", api.ErrLimit, 9},
		{"public a 65]", api.ErrParse, 9},
		{"public[65]", api.ErrParse, 6},
		{"lock a[65];", api.ErrParse, 6},
		{"lock a by b;", api.ErrParse, 7},
		{"public a by b[3];", api.ErrParse, 13},
		{"thread{loop 257", api.ErrParse, 12},
		{"thread{loop i 257 ; loop j 0 {", api.ErrLimit, 14},
		{"thread{loop i 0{loop j 257{", api.ErrLimit, 14},
		{"thread{loop i 2 loop j 257{", api.ErrParse, 16},
		{deep + "1 public a[65]", api.ErrLimit, len(deep)},
		{deep + ")" + deep, api.ErrParse, len(deep)},
		{"public a[65];" + deep + "1", api.ErrLimit, 9},
		{"public a;;" + deep + "1", api.ErrParse, 9},
		{strings.Repeat("lock l;", 64) + "public a[65]", api.ErrLimit, 448},
		{strings.Repeat("lock l;", 63) + "public a[65];;", api.ErrLimit, 441 + 9},
		{strings.Repeat("lock l;", 65) + deep, api.ErrLimit, 448},
		{strings.Repeat("thread{}", 15) + "thread{loop i 257", api.ErrLimit, 15*8 + 14},
		{strings.Repeat("thread{}", 16) + "thread{loop i 257", api.ErrLimit, 16 * 8},
		{strings.Repeat("thread{}", 16) + "public a[65];", api.ErrLimit, 16 * 8},
		{"thread{} ; " + strings.Repeat("thread{}", 16), api.ErrParse, 9},
	} {
		checkFault(t, c.text, c.n, c.at)
	}
}
