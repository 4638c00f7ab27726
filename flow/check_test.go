package flow

import (
	"math"
	"strings"
	"testing"

	"tautochrone/api"
	"tautochrone/parse"
)

const head = "lock l; lock m; public a; secret k; public b by l; secret c by l; public p[4]; secret s[4]; public one[1]; secret q[64] by m; "

func program(t *testing.T, text string) api.Program {
	t.Helper()
	p, err := parse.Program(text)
	if err != nil {
		t.Fatalf("%q: %v", text, err)
	}
	return p
}

// checkText holds that a text is right, or that what is wrong of it stands where the @ is.
func checkText(t *testing.T, text string, want api.Errno) {
	t.Helper()
	place := strings.Index(text, "@")
	if (place < 0) != (want == 0) || strings.Count(text, "@") > 1 {
		t.Fatalf("%q: a mark for each error", text)
	}
	err := Check(program(t, strings.ReplaceAll(text, "@", "")))
	if want == 0 {
		if err != nil {
			t.Errorf("%q: %v", text, err)
		}
		return
	}
	if api.Number(err) != want || api.Place(err) != place {
		t.Errorf("%q: %v, not %v at %d", text, err, want, place)
	}
	checkFault(t, err, want, place)
}

// surely are blocks around a statement that leave it under what is public, and maybe those that do not.
func surely() []string {
	return []string{"$", "if (a) { $ }", "if (1) { } else { $ }", "loop z 3 { $ }", "loop z 3 { if (z < 2) { fence; $ } }", "if (a) { a = 1; } else { loop z 1 { if (a) { } else { $ } } }", "take l; $", "if (k) { k = 1; } $", "if (k) { } else { k = 1; } $", "if (k) { local z = 1; k = z; } $", "loop z 2 { } $"}
}

func maybe() []string {
	return []string{"if (k) { $ }", "if (1) { } else { if (k) { $ } }", "if (k) { } else { $ }", "if (k) { loop z 3 { $ } }", "loop z 3 { if (k) { $ } }", "if (a) { if (k) { if (a) { $ } } }", "if (k) { if (a) { } else { $ } }", "if (s[1] == 2) { loop z 2 { k = z; $ } }", "local z = k; if (z) { $ }", "if (~(1 + k)) { $ }", "if (pick(1, 2, k)) { if (k) { $ } }", "loop z 2 { if (k) { k = 1; } else { loop v 2 { $ } } }"}
}

// checkStmt holds what is wrong of a statement, wherever it stands: under what is public, and under what is secret.
func checkStmt(t *testing.T, stmt string, public, secret api.Errno) {
	t.Helper()
	checkUnder(t, surely(), stmt, public)
	checkUnder(t, maybe(), stmt, secret)
}

func checkUnder(t *testing.T, around []string, stmt string, want api.Errno) {
	t.Helper()
	if want == 0 {
		stmt = strings.ReplaceAll(stmt, "@", "")
	}
	for _, x := range around {
		body := strings.ReplaceAll(x, "$", stmt)
		checkText(t, head+"thread { "+body+" }", want)
		checkText(t, head+"thread { a = 1; } thread { "+body+" } thread { }", want)
		if want != 0 {
			checkText(t, head+"thread { "+body+" output k; } thread { none = 1; }", want)
		}
	}
}

func TestCheckExamples(t *testing.T) {
	const two = "secret k; public a; thread { "
	checkText(t, two+"@a = k; }", api.ErrFlow)
	checkText(t, two+"if (k) { @a = 1; } }", api.ErrFlow)
	checkText(t, two+"if (k) { k = 1; } }", 0)
	door := "secret key; public door; secret right; thread { right = 0; if (key == 7) { right = 1; } "
	checkText(t, door+"door = 1; }", 0)
	checkText(t, door+"@door = key; }", api.ErrFlow)
	checkText(t, door+"if (key) { @door = 1; } }", api.ErrFlow)
}

func TestCheckNothing(t *testing.T) {
	for _, p := range []api.Program{{}, {Threads: [][]api.Stmt{nil, {}, nil}}, {Decls: []api.Decl{{Name: "a"}}}, {Decls: []api.Decl{}, Threads: [][]api.Stmt{}}} {
		if err := Check(p); err != nil {
			t.Error(p, err)
		}
	}
}

func TestCheckLocal(t *testing.T) {
	const ty, fl = api.ErrType, api.ErrFlow
	for _, stmt := range []string{"local x = 1;", "local x = k;", "local x = a; local y = x;", "local x = k; x = k;", "loop i 2 { local x = i; }"} {
		checkStmt(t, stmt, 0, 0)
	}
	checkStmt(t, "local x = @x;", ty, ty)
	checkStmt(t, "local x = @none;", ty, ty)
	checkStmt(t, "local x = @l;", ty, ty)
	checkStmt(t, "local x = p[@k];", fl, fl)
	checkStmt(t, "local x = p[@4];", ty, ty)
	for _, n := range []string{"l", "a", "k", "b", "p", "s", "q"} {
		checkStmt(t, "@local "+n+" = 1;", ty, ty)
		checkStmt(t, "@local "+n+" = k;", ty, ty)
		checkStmt(t, "local "+n+" = @none;", ty, ty)
	}
	checkStmt(t, "local x = 1; @local x = 2;", ty, ty)
	checkStmt(t, "local x = 1; if (a) { @local x = 2; }", ty, ty)
	checkStmt(t, "local x = 1; if (a) { } else { @local x = 2; }", ty, ty)
	checkStmt(t, "local x = 1; loop j 2 { @local x = 2; }", ty, ty)
	checkStmt(t, "loop x 2 { @local x = 2; }", ty, ty)
	checkStmt(t, "loop x 2 { local y = x; @local y = 3; }", ty, ty)
}

// A local is as secret as its value, and as whether it is made at all.
func TestCheckLocalLabel(t *testing.T) {
	const fl = api.ErrFlow
	checkStmt(t, "local x = 1; @a = x;", 0, fl)
	checkStmt(t, "local x = k; @a = x;", fl, fl)
	checkStmt(t, "local x = k; k = x;", 0, 0)
	checkStmt(t, "local x = 1; k = x;", 0, 0)
	checkStmt(t, "local x = 1; @x = k;", fl, 0)
	checkStmt(t, "local x = 1; if (k) { @x = 1; }", fl, 0)
	checkStmt(t, "local x = 1; if (k) { } else { @x = 1; }", fl, 0)
	checkStmt(t, "local x = k; if (k) { x = 1; }", 0, 0)
	checkStmt(t, "local x = 1; x = x + a;", 0, 0)
	checkStmt(t, "local x = 1; local y = p[@x & 3];", 0, fl)
	checkText(t, head+"thread { if (k) { local x = 1; k = p[@x & 3]; } }", fl)
	checkText(t, head+"thread { if (k) { local x = 1; local y = 2; s[@y & 3] = x; } }", fl)
	checkText(t, head+"thread { local x = 1; if (k) { k = p[x & 3]; } }", 0)
	checkText(t, head+"thread { local x = k; local y = 1 + x; local z = y; @output z; }", fl)
	checkText(t, head+"thread { local x = a; local y = 1 + x; local z = y; output z; }", 0)
	// A local keeps its label when it is given what is public.
	checkText(t, head+"thread { local x = k; x = 1; @a = x; }", fl)
}

func TestCheckAssign(t *testing.T) {
	const ty, fl = api.ErrType, api.ErrFlow
	for _, v := range []string{"1", "a", "b", "p[0]", "p[a & 3]", "a + b * 2", "~a", "pick(a, b, 1)"} {
		checkStmt(t, "@a = "+v+";", 0, fl)
		checkStmt(t, "@b = "+v+";", 0, fl)
		checkStmt(t, "k = "+v+";", 0, 0)
		checkStmt(t, "c = "+v+";", 0, 0)
	}
	for _, v := range []string{"k", "c", "s[0]", "s[a & 3]", "a + k * 0", "k & 0", "~k", "pick(k, 1, 1)", "pick(1, 1, k)", "k == k"} {
		checkStmt(t, "@a = "+v+";", fl, fl)
		checkStmt(t, "@b = "+v+";", fl, fl)
		checkStmt(t, "k = "+v+";", 0, 0)
		checkStmt(t, "c = "+v+";", 0, 0)
	}
	for _, n := range []string{"l", "p", "s", "none"} {
		checkStmt(t, "@"+n+" = 1;", ty, ty)
		checkStmt(t, "@"+n+" = k;", ty, ty)
		checkStmt(t, n+" = @none;", ty, ty)
		checkStmt(t, n+" = 1 + p[@k];", fl, fl)
	}
	checkStmt(t, "loop i 2 { @i = 1; }", ty, ty)
	checkStmt(t, "loop i 2 { @i = k; }", ty, ty)
	checkStmt(t, "loop i 2 { @i = i; }", ty, ty)
	for _, n := range []string{"a", "k"} {
		checkStmt(t, n+" = @none;", ty, ty)
		checkStmt(t, n+" = k + @p;", ty, ty)
		checkStmt(t, n+" = @l;", ty, ty)
		checkStmt(t, n+" = p[@4];", ty, ty)
		checkStmt(t, n+" = p[@a];", ty, ty)
		checkStmt(t, n+" = p[@k & 3];", fl, fl)
		checkStmt(t, n+" = @k[0];", ty, ty)
		checkStmt(t, n+" = s[@4] + p[k];", ty, ty)
		checkStmt(t, n+" = p[@k] + s[4];", fl, fl)
	}
}

func TestCheckStore(t *testing.T) {
	const ty, fl = api.ErrType, api.ErrFlow
	for _, place := range []string{"0", "3", "a & 3", "3 & b", "a < 3", "p[1] & 3", "1 + (a & 2)", "(a == 1) * 3"} {
		checkStmt(t, "@p["+place+"] = 1;", 0, fl)
		checkStmt(t, "@p["+place+"] = a;", 0, fl)
		checkStmt(t, "@p["+place+"] = k;", fl, fl)
		checkStmt(t, "s["+place+"] = 1;", 0, 0)
		checkStmt(t, "s["+place+"] = k;", 0, 0)
		checkStmt(t, "p["+place+"] = @none;", ty, ty)
		checkStmt(t, "s["+place+"] = p[@k];", fl, fl)
	}
	for _, n := range []string{"p", "s"} {
		for _, v := range []string{"1", "k", "none", "p[k]", "p[4]"} {
			for _, place := range []string{"@4", "@5", "@a", "@~0", "@a & 4", "(@a & 3) + 1", "(@a & 3) * 2", "@18446744073709551615", "@1073741824", "@4294967296", "@p[0]", "@pick(1, 1, 1)", "@3 - 1", "@1 << 1", "@8 >> 2", "@0 | 0", "@1 ^ 1", "@none", "1 + @none", "k + @l", "p[@4] & 3", "@a[0]", "@p"} {
				checkStmt(t, n+"["+place+"] = "+v+";", ty, ty)
			}
			for _, place := range []string{"@k", "@k & 3", "@3 & k", "@k * 0", "@s[0]", "@k < 1", "p[@k] & 3", "p[@s[1]]", "@a + k", "@c"} {
				checkStmt(t, n+"["+place+"] = "+v+";", fl, fl)
			}
		}
	}
	for _, n := range []string{"l", "a", "k", "b", "none"} {
		for _, rest := range []string{"[0] = 1;", "[k] = 1;", "[none] = 1;", "[9] = k;", "[0] = none;"} {
			checkStmt(t, "@"+n+rest, ty, ty)
		}
	}
	checkStmt(t, "loop i 4 { @p[i] = i; s[i] = k; }", 0, fl)
	checkStmt(t, "loop i 5 { p[@i] = i; }", ty, ty)
	checkStmt(t, "loop i 2 { loop j 3 { s[i + j] = p[i + j]; q[i * j + 61] = 1; } }", 0, 0)
	checkStmt(t, "loop i 2 { loop j 4 { s[@i + j] = 1; } }", ty, ty)
	checkStmt(t, "loop i 3 { loop j 4 { q[i * j + 57] = 1; } }", 0, 0)
	checkStmt(t, "loop i 3 { loop j 4 { q[@i * j + 58] = 1; } }", ty, ty)
	checkStmt(t, "@one[0] = 1;", 0, fl)
	checkStmt(t, "loop i 1 { @one[i] = 1; }", 0, fl)
	checkStmt(t, "one[@1] = 1;", ty, ty)
	checkStmt(t, "local x = 1; @x[0] = 1;", ty, ty)
	checkStmt(t, "loop i 2 { @i[0] = 1; }", ty, ty)
}

func TestCheckIf(t *testing.T) {
	const ty, fl = api.ErrType, api.ErrFlow
	checkStmt(t, "if (@none) { a = k; } else { none = 1; }", ty, ty)
	checkStmt(t, "if (k + @l) { }", ty, ty)
	checkStmt(t, "if (p[@k]) { none = 1; }", fl, fl)
	checkStmt(t, "if (p[@4]) { }", ty, ty)
	checkStmt(t, "if (a) { } else { }", 0, 0)
	checkStmt(t, "if (k) { } else { }", 0, 0)
	checkStmt(t, "if (a) { @none = 1; } else { a = k; }", ty, ty)
	checkStmt(t, "if (a) { k = 1; } else { @none = 1; }", ty, ty)
	checkStmt(t, "if (a) { k = 1; } else { k = 2; } @a = 3;", 0, fl)
	checkStmt(t, "if (k) { k = 1; } else { k = 2; } @a = 3;", 0, fl)
	checkStmt(t, "if (a) { @a = 1; } else { k = 2; }", 0, fl)
	checkStmt(t, "if (a) { k = 1; } else { @a = 2; }", 0, fl)
	checkStmt(t, "if (k) { @a = 1; } else { a = 2; }", fl, fl)
	checkStmt(t, "if (k) { k = 1; } else { @a = 2; }", fl, fl)
	checkStmt(t, "if (k) { if (a) { k = 1; } @a = 2; }", fl, fl)
	checkStmt(t, "if (a) { if (k) { k = 1; } @a = 2; }", 0, fl)
	checkStmt(t, "if (a) { if (k) { @a = 1; } }", fl, fl)
	checkStmt(t, "if (k) { if (a) { @a = 1; } }", fl, fl)
	checkStmt(t, "if (a) { if (b) { k = 1; } else { if (k) { k = 2; } else { @p[0] = 1; } } }", fl, fl)
	checkStmt(t, "loop i 2 { if (i) { @a = 1; } }", 0, fl)
	checkStmt(t, "local x = k; if (x) { @a = 1; }", fl, fl)
	checkStmt(t, "local x = a; if (x) { @a = 1; }", 0, fl)
}

func TestCheckLoop(t *testing.T) {
	const ty, fl = api.ErrType, api.ErrFlow
	for _, n := range []string{"l", "a", "k", "b", "p", "s", "q"} {
		checkStmt(t, "@loop "+n+" 2 { none = 1; }", ty, ty)
		checkStmt(t, "@loop "+n+" 2 { }", ty, ty)
	}
	checkStmt(t, "local x = 1; @loop x 2 { }", ty, ty)
	checkStmt(t, "loop i 2 { @loop i 2 { none = 1; } }", ty, ty)
	checkStmt(t, "loop i 2 { if (a) { } else { @loop i 2 { } } }", ty, ty)
	checkStmt(t, "loop i 2 { loop j 3 { @loop i 4 { } } }", ty, ty)
	checkStmt(t, "loop i 1 { } loop i 256 { }", 0, 0)
	checkStmt(t, "loop i 2 { loop j 3 { } loop j 4 { } } loop j 5 { loop i 6 { } }", 0, 0)
	checkStmt(t, "loop i 2 { @none = 1; }", ty, ty)
	checkStmt(t, "loop i 2 { k = i; } @none = 1;", ty, ty)
	checkStmt(t, "loop i 2 { @a = i; }", 0, fl)
	checkStmt(t, "loop i 2 { @a = k; }", fl, fl)
	checkStmt(t, "loop i 2 { k = 1; } @a = 2;", 0, fl)
	// A counter is public under a secret condition, too: it is a place.
	checkStmt(t, "loop i 4 { s[i] = p[i]; }", 0, 0)
	checkStmt(t, "loop i 4 { local x = i; s[@x & 3] = 1; }", 0, fl)
	checkStmt(t, "loop i 256 { q[i & 63] = i; }", 0, 0)
	checkStmt(t, "loop i 65 { q[@i] = i; }", ty, ty)
	checkStmt(t, "loop i 64 { q[i] = i; }", 0, 0)
}

func TestCheckSeen(t *testing.T) {
	const ty, fl = api.ErrType, api.ErrFlow
	checkStmt(t, "@fence;", 0, fl)
	for _, n := range []string{"l", "m"} {
		checkStmt(t, "@take "+n+";", 0, fl)
		checkStmt(t, "@give "+n+";", 0, fl)
	}
	for _, n := range []string{"a", "k", "b", "p", "s", "none"} {
		checkStmt(t, "@take "+n+";", ty, fl)
		checkStmt(t, "@give "+n+";", ty, fl)
	}
	for _, word := range []string{"take", "give"} {
		checkStmt(t, "local x = 1; @"+word+" x;", ty, fl)
		checkStmt(t, "loop i 2 { @"+word+" i; }", ty, fl)
	}
}

func TestCheckOutput(t *testing.T) {
	const ty, fl = api.ErrType, api.ErrFlow
	for _, v := range []string{"1", "a", "a + b", "p[3]", "~p[a & 3]", "pick(a, 1, b)"} {
		checkStmt(t, "@output "+v+";", 0, fl)
		checkStmt(t, "if (a) { @output "+v+"; } else { fence; }", 0, fl)
	}
	for _, v := range []string{"k", "k & 0", "s[3]", "~k", "pick(a, 1, k)", "a + (b + (1 + k))", "k == k"} {
		checkStmt(t, "@output "+v+";", fl, fl)
	}
	for _, v := range []string{"@none", "@l", "@p", "p[@4]", "k + @none", "@none + k", "p[@a]", "@a[0]"} {
		checkUnder(t, surely(), "output "+v+";", ty)
		checkUnder(t, maybe(), "@output "+strings.ReplaceAll(v, "@", "")+";", fl)
	}
	checkUnder(t, surely(), "output p[@k];", fl)
	checkUnder(t, maybe(), "@output p[k];", fl)
	checkStmt(t, "local x = 1; @output x;", 0, fl)
	checkStmt(t, "local x = k; @output x;", fl, fl)
	checkStmt(t, "loop i 3 { @output i; }", 0, fl)
}

func TestCheckBump(t *testing.T) {
	const ty, fl = api.ErrType, api.ErrFlow
	for _, v := range []string{"1", "a", "p[3]", "a * b"} {
		for _, n := range []string{"a", "b", "k", "c"} {
			checkStmt(t, "@add "+n+" "+v+";", 0, fl)
		}
	}
	for _, v := range []string{"k", "s[3]", "k * 0", "c"} {
		checkStmt(t, "@add a "+v+";", fl, fl)
		checkStmt(t, "@add b "+v+";", fl, fl)
		checkStmt(t, "@add k "+v+";", 0, fl)
		checkStmt(t, "@add c "+v+";", 0, fl)
	}
	for _, n := range []string{"l", "p", "s", "none"} {
		checkStmt(t, "@add "+n+" 1;", ty, fl)
		checkStmt(t, "@add "+n+" k;", ty, fl)
	}
	checkStmt(t, "local x = 1; @add x 1;", ty, fl)
	checkStmt(t, "local x = k; @add x 1;", ty, fl)
	checkStmt(t, "local x = 1; @add x k;", ty, fl)
	checkStmt(t, "loop i 2 { @add i 1; }", ty, fl)
	for _, n := range []string{"a", "k", "l", "p", "none"} {
		for _, v := range []string{"@none", "@l", "p[@4]", "k + @none", "p[@p[0]]"} {
			checkUnder(t, surely(), "add "+n+" "+v+";", ty)
			checkUnder(t, maybe(), "@add "+n+" "+strings.ReplaceAll(v, "@", "")+";", fl)
		}
		checkUnder(t, surely(), "add "+n+" p[@k];", fl)
	}
}

// What is entered in a block is left behind it, and may be entered anew there, as another thing.
func TestCheckLeft(t *testing.T) {
	const ty, fl = api.ErrType, api.ErrFlow
	for _, block := range []string{"if (a) { local x = 1; }", "if (a) { } else { local x = 1; }", "loop j 2 { local x = 1; }", "loop x 2 { }", "loop j 2 { loop x 2 { } }", "if (k) { local x = 1; }", "if (k) { } else { loop x 3 { } }", "if (a) { local x = 1; } else { local x = k; }", "if (a) { loop x 2 { } local x = 1; x = 2; }", "loop j 2 { if (a) { local x = j; } else { local x = k; } local x = 1; }"} {
		checkStmt(t, block+" @x = 1;", ty, ty)
		checkStmt(t, block+" k = @x;", ty, ty)
		checkStmt(t, block+" local x = @x;", ty, ty)
		checkStmt(t, block+" local x = 2; k = x;", 0, 0)
		checkStmt(t, block+" loop x 4 { s[x] = 1; }", 0, 0)
		checkStmt(t, block+" loop x 5 { s[@x] = 1; }", ty, ty)
		checkStmt(t, block+" "+block, 0, 0)
		checkStmt(t, block+" local x = k; @a = x;", fl, fl)
		checkStmt(t, block+" local x = 1; @a = x;", 0, fl)
		checkText(t, head+"thread { "+block+" } thread { "+block+" }", 0)
		checkText(t, head+"thread { "+block+" } thread { @x = 1; }", ty)
	}
	checkStmt(t, "if (a) { local x = 1; } else { @x = 1; }", ty, ty)
	checkStmt(t, "if (a) { local x = 1; } else { loop x 2 { @x = 1; } }", ty, ty)
	checkStmt(t, "loop i 2 { } k = @i;", ty, ty)
	checkStmt(t, "loop i 4 { } loop j 2 { s[@i] = 1; }", ty, ty)
	// What was entered ahead of the block stays.
	checkStmt(t, "local x = k; if (a) { local y = 1; } loop i 2 { local y = 2; } x = 1; @a = x;", fl, fl)
	checkStmt(t, "local x = k; loop i 2 { if (a) { local y = 1; } local z_ = i; x = z_; x = i; } @local x = 1;", ty, ty)
	checkStmt(t, "loop i 4 { if (a) { local y = 1; } else { loop j 2 { } } s[i] = 1; local y = 1; s[i] = y; }", 0, 0)
}

// Each thread has its own locals; what is wrong in an earlier thread is told ahead of all later ones.
func TestCheckThreads(t *testing.T) {
	const ty, fl = api.ErrType, api.ErrFlow
	checkText(t, head+"thread { local x = k; k = x; } thread { local x = 1; a = x; } thread { loop x 4 { p[x] = 1; } }", 0)
	checkText(t, head+"thread { local x = 1; } thread { @x = 1; }", ty)
	checkText(t, head+"thread { local x = 1; } thread { a = @x; }", ty)
	checkText(t, head+"thread { loop i 2 { } } thread { p[@i] = 1; }", ty)
	checkText(t, head+"thread { @a = k; } thread { none = 1; }", fl)
	checkText(t, head+"thread { k = 1; @none = 1; } thread { a = k; }", ty)
	checkText(t, head+"thread { } thread { } thread { if (k) { } } thread { if (k) { @output 1; } }", fl)
	checkText(t, head+"thread { if (k) { k = 1; } } thread { a = 1; output a; take l; give l; fence; add a 1; }", 0)
	checkText(t, head+strings.Repeat("thread { local x = k; loop i 4 { s[i] = x; } } ", 15)+"thread { local x = k; @a = x; }", fl)
}

// Of statements, too, the first one that is wrong is told, not the graver one.
func TestCheckFirst(t *testing.T) {
	const ty, fl = api.ErrType, api.ErrFlow
	wrongs := []struct {
		stmt string
		want api.Errno
	}{
		{"@a = k;", fl}, {"@none = 1;", ty}, {"p[@k] = 1;", fl}, {"p[@4] = 1;", ty}, {"@output k;", fl}, {"@add p 1;", ty}, {"@take a;", ty},
		{"if (k) { @fence; }", fl}, {"if (@none) { fence; }", ty}, {"@loop a 2 { }", ty}, {"loop i 2 { @i = 1; }", ty}, {"@local a = 1;", ty}, {"if (a) { } else { @give k; }", ty},
	}
	for _, x := range wrongs {
		for _, y := range wrongs {
			late := strings.ReplaceAll(y.stmt, "@", "")
			checkText(t, head+"thread { fence; "+x.stmt+" "+late+" }", x.want)
			checkText(t, head+"thread { if (a) { "+x.stmt+" } else { "+late+" } }", x.want)
			checkText(t, head+"thread { if (a) { "+x.stmt+" } "+late+" }", x.want)
			checkText(t, head+"thread { loop v 3 { "+x.stmt+" "+late+" } "+late+" }", x.want)
			checkText(t, head+"thread { fence; "+x.stmt+" } thread { "+late+" }", x.want)
		}
	}
}

func TestCheckDecls(t *testing.T) {
	const ty = api.ErrType
	for _, rest := range []string{"thread { }", "thread { a = k; }", "thread { none = 1; } thread { output none; }"} {
		checkText(t, "public a; @public a; "+rest, ty)
		checkText(t, "lock a; secret k; @secret a[4]; public k; "+rest, ty)
		checkText(t, "public a; @public b by l; lock l; public a; "+rest, ty)
		checkText(t, "public a; @public b by a; "+rest, ty)
		checkText(t, "lock l; public b by l; @lock l; "+rest, ty)
	}
	checkText(t, "lock l; public b by l; secret c[3] by l; thread { b = 1; c[2] = b; }", 0)
}

func stmt(kind api.StmtKind, n string, es ...api.Expr) api.Stmt {
	return api.Stmt{Kind: kind, Name: n, Exprs: es, At: 5}
}

// checkTree holds what is wrong of a statement that no text has, under what is public and under what is secret.
func checkTree(t *testing.T, s api.Stmt, public api.Errno, publicAt int, secret api.Errno, secretAt int) {
	t.Helper()
	decls := []api.Decl{{Name: "l", Lock: true}, {Name: "a"}, {Name: "k", Label: api.Secret}, {Name: "p", Size: 4}, {Name: "s", Size: 4, Label: api.Secret}, {Name: "odd", Label: 9}, {Name: "odds", Size: 2, Label: -1}}
	under := api.Stmt{Kind: api.If, Exprs: []api.Expr{name("k")}, Body: []api.Stmt{s}, At: 2}
	other := api.Stmt{Kind: api.If, Exprs: []api.Expr{name("odd")}, Else: []api.Stmt{s}, At: 2}
	checkErr(t, api.Program{Decls: decls, Threads: [][]api.Stmt{{s}}}, public, publicAt)
	checkErr(t, api.Program{Decls: decls, Threads: [][]api.Stmt{nil, {under}}}, secret, secretAt)
	checkErr(t, api.Program{Decls: decls, Threads: [][]api.Stmt{{other}}}, secret, secretAt)
}

func checkErr(t *testing.T, p api.Program, want api.Errno, place int) {
	t.Helper()
	err := Check(p)
	if want == 0 && err != nil || want != 0 && (api.Number(err) != want || api.Place(err) != place) {
		t.Errorf("Check(%+v): %v, not %v at %d", p, err, want, place)
	}
}

func TestCheckNoValue(t *testing.T) {
	const ty, fl = api.ErrType, api.ErrFlow
	for _, n := range []string{"a", "k", "x", "l", "none", ""} {
		checkTree(t, stmt(api.Local, n), ty, 5, ty, 5)
		checkTree(t, stmt(api.Assign, n), ty, 5, ty, 5)
		checkTree(t, stmt(api.If, n), ty, 5, ty, 5)
		checkTree(t, stmt(api.Output, n), ty, 5, fl, 5)
		checkTree(t, stmt(api.Bump, n), ty, 5, fl, 5)
	}
	s := stmt(api.If, "")
	s.Body = []api.Stmt{{Kind: api.Assign, Name: "none", At: 6}}
	s.Else = s.Body
	checkTree(t, s, ty, 5, ty, 5)
}

func TestCheckStoreExprs(t *testing.T) {
	const ty, fl = api.ErrType, api.ErrFlow
	bad, hid := at(7, name("none")), at(8, name("k"))
	for _, n := range []string{"p", "s", "a", "none"} {
		for _, es := range [][]api.Expr{nil, {}, {lit(0)}, {bad}, {hid}, {lit(0), lit(0), lit(0)}, {bad, bad, bad}, {hid, lit(1), lit(2)}} {
			checkTree(t, stmt(api.Store, n, es...), ty, 5, ty, 5)
		}
	}
	checkTree(t, stmt(api.Store, "p", lit(0), lit(1)), 0, 0, fl, 5)
	checkTree(t, stmt(api.Store, "s", lit(0), hid), 0, 0, 0, 0)
	checkTree(t, stmt(api.Store, "s", bad, hid), ty, 7, ty, 7)
	checkTree(t, stmt(api.Store, "s", hid, bad), fl, 8, fl, 8)
	checkTree(t, stmt(api.Store, "s", lit(0), bad), ty, 7, ty, 7)
	checkTree(t, stmt(api.Store, "none", bad, hid), ty, 5, ty, 5)
}

// A label that is neither Public nor Secret counts as Secret.
func TestCheckStrangeLabels(t *testing.T) {
	const ty, fl = api.ErrType, api.ErrFlow
	checkTree(t, stmt(api.Assign, "odd", name("k")), 0, 0, 0, 0)
	checkTree(t, stmt(api.Assign, "k", name("odd")), 0, 0, 0, 0)
	checkTree(t, stmt(api.Assign, "a", name("odd")), fl, 5, fl, 5)
	checkTree(t, stmt(api.Store, "odds", lit(1), name("k")), 0, 0, 0, 0)
	checkTree(t, stmt(api.Store, "odds", lit(1), cell("odds", lit(0))), 0, 0, 0, 0)
	checkTree(t, stmt(api.Store, "p", lit(1), cell("odds", lit(0))), fl, 5, fl, 5)
	checkTree(t, stmt(api.Store, "odds", at(7, name("odd")), lit(1)), fl, 7, fl, 7)
	checkTree(t, stmt(api.Output, "", name("odd")), fl, 5, fl, 5)
	checkTree(t, stmt(api.Bump, "odd", name("k")), 0, 0, fl, 5)
	checkTree(t, stmt(api.Bump, "a", name("odd")), fl, 5, fl, 5)
	checkTree(t, stmt(api.Bump, "odds", name("odd")), ty, 5, fl, 5)
}

// Statements of no kind are asked for nothing but where they stand.
func TestCheckStrangeKinds(t *testing.T) {
	for _, kind := range []api.StmtKind{-1, 10, 11, 256, math.MinInt, math.MaxInt} {
		s := stmt(kind, "none", name("none"))
		s.Body = []api.Stmt{stmt(api.Assign, "none")}
		checkTree(t, s, 0, 0, api.ErrFlow, 5)
	}
}

// A loop of no rounds has a counter that is a local (6).
func TestCheckLoopCounts(t *testing.T) {
	const ty = api.ErrType
	assign := api.Stmt{Kind: api.Assign, Name: "i", Exprs: []api.Expr{lit(1)}, At: 6}
	store := api.Stmt{Kind: api.Store, Name: "s", Exprs: []api.Expr{at(8, name("i")), lit(1)}, At: 7}
	for _, count := range []int{1, 4, 5, 1 << 40, math.MaxInt} {
		checkTree(t, api.Stmt{Kind: api.Loop, Name: "i", Count: count, Body: []api.Stmt{assign}, At: 5}, ty, 6, ty, 6)
	}
	for _, count := range []int{0, -1, math.MinInt} {
		checkTree(t, api.Stmt{Kind: api.Loop, Name: "i", Count: count, Body: []api.Stmt{store}, At: 5}, ty, 8, ty, 8)
	}
	checkTree(t, api.Stmt{Kind: api.Loop, Name: "i", Count: 5, Body: []api.Stmt{store}, At: 5}, ty, 8, ty, 8)
	checkTree(t, api.Stmt{Kind: api.Loop, Name: "i", Count: 4, Body: []api.Stmt{store}, At: 5}, 0, 0, 0, 0)
	checkTree(t, api.Stmt{Kind: api.Loop, Name: "i", Count: 4, Else: []api.Stmt{stmt(api.Assign, "none")}, At: 5}, 0, 0, 0, 0)
}
