package hold

import (
	"errors"
	"strings"
	"testing"

	"tautochrone/api"
	"tautochrone/parse"
)

// Names by a lock, names by none, and locks.
const head = "lock l; lock m; lock n; public a by l; secret b by m; public p[4] by l; public c; secret d; public q[4]; "

func program(t *testing.T, text string) api.Program {
	t.Helper()
	p, err := parse.Program(text)
	if err != nil {
		t.Fatalf("%q: %v", text, err)
	}
	return p
}

// checkText holds that a text keeps the rule, or that what breaks it first stands where the @ is.
func checkText(t *testing.T, text string) {
	t.Helper()
	place := strings.Index(text, "@")
	if strings.Count(text, "@") > 1 {
		t.Fatalf("%q: one mark", text)
	}
	checkErr(t, program(t, strings.Replace(text, "@", "", 1)), place, text)
}

// checkErr holds that a program keeps the rule, if the place is below 0, or where it breaks it.
func checkErr(t *testing.T, p api.Program, place int, about string) {
	t.Helper()
	err := Check(p)
	if place < 0 {
		if err != nil {
			t.Errorf("%q: %v", about, err)
		}
		return
	}
	var f *api.Fault
	if !errors.Is(err, api.ErrLock) || api.Number(err) != api.ErrLock || !errors.As(err, &f) || f.At != place {
		t.Errorf("%q: %v, not at %d", about, err, place)
	}
}

// checkThreads holds what is wrong of some threads: each is what stands in its braces.
func checkThreads(t *testing.T, threads ...string) {
	t.Helper()
	checkText(t, head+"thread { "+strings.Join(threads, " } thread { ")+" }")
}

func unmarked(text string) string { return strings.ReplaceAll(text, "@", "") }

// around are blocks around statements, to which they do not matter, be they done or not.
func around() []string {
	return []string{"$", "if (1) { $ }", "if (1) { } else { $ }", "loop z 3 { $ }", "loop z 3 { if (z < 2) { fence; $ } }", "if (1) { fence; } else { loop z 1 { if (0) { } else { $ } } }", "take n; $ give n;", "take n; give n; $", "if (1) { take n; give n; } $", "loop z 2 { take n; $ give n; }", "local z = 1; $ output z;", "$ fence;"}
}

// checkStmts holds what is wrong of statements wherever they stand.
func checkStmts(t *testing.T, stmts string) {
	t.Helper()
	for _, x := range around() {
		body := strings.ReplaceAll(x, "$", stmts)
		checkThreads(t, body)
		checkThreads(t, "take l; a = 1; give l;", body, "take m; b = 1; give m;")
		if strings.Contains(stmts, "@") {
			checkThreads(t, body+" take l; take l; a = 1;", "b = 1; give n;")
		}
	}
}

// waysOfCell and waysOfArray are the ways to use what has the name $, each of which is told at the @.
func waysOfCell() []string {
	return []string{"output @$;", "local x = @$;", "c = @$;", "c = 1 + @$;", "c = @$ + 1;", "c = ~@$;", "c = pick(1, 2, @$);", "c = pick(@$, 1, 2);", "q[@$ & 3] = 1;", "q[0] = @$;", "c = q[@$ & 3];", "if (@$) { }", "if (1) { c = (1 + (2 * @$)); }", "loop i 2 { c = @$; }", "add c @$;", "@$ = 1;", "loop i 2 { @$ = i; }", "if (c) { } else { @$ = 1; }", "@add $ 1;", "@add $ c;"}
}

func waysOfArray() []string {
	return []string{"output @$[0];", "local x = @$[1];", "c = @$[c & 3];", "c = 1 + @$[0];", "c = @$[q[0] & 3] + 1;", "c = q[@$[0] & 3];", "if (@$[0]) { }", "loop i 4 { c = @$[i]; }", "add c @$[0];", "@$[0] = 1;", "@$[c & 3] = 1;", "loop i 4 { @$[i] = i; }"}
}

func TestCheckExamples(t *testing.T) {
	const two = "lock l; public a by l; thread { "
	checkText(t, two+"@a = 1; }")
	checkText(t, two+"take l; a = 1; give l; }")
	checkText(t, two+"@take l; }")
	checkText(t, "secret key; public door; secret right; thread { right = 0; if (key == 7) { right = 1; } door = 1; }")
}

func TestCheckNothing(t *testing.T) {
	for _, p := range []api.Program{{}, {Threads: [][]api.Stmt{nil, {}, nil}}, {Decls: []api.Decl{{Name: "a", By: "l"}}}, {Decls: []api.Decl{}, Threads: [][]api.Stmt{}}} {
		checkErr(t, p, -1, "nothing")
	}
	checkText(t, "thread { }")
	checkText(t, "lock l; public a by l; thread { } thread { fence; } thread { output 1; loop i 4 { } if (1) { } else { } }")
}

// under are statements around a use: those of the first list hold its lock there, those of the second one do not.
func under(lock, other string) (with, without []string) {
	with = []string{"take L; $ give L;", "take L; take O; $ give O; give L;", "take O; take L; $ give L; give O;", "take L; take O; give O; $ give L;", "take L; if (1) { $ } give L;", "take L; loop v 3 { $ } give L;", "loop v 3 { take L; if (v) { } else { $ } give L; }", "take O; give O; take L; give L; take L; $ give L;", "take L; loop v 2 { take O; give O; } $ give L;", "take L; give L; if (1) { take L; $ give L; }"}
	without = []string{"$", "take O; $ give O;", "take L; give L; $", "$ take L; give L;", "take O; take L; give L; $ give O;", "if (1) { take L; give L; } $", "if (1) { take L; give L; } else { $ }", "loop v 2 { $ take L; give L; }", "loop v 2 { take L; give L; $ }", "take n; take O; $ give O; give n;", "if (1) { $ } take L; give L;"}
	for _, list := range [][]string{with, without} {
		for i := range list {
			list[i] = strings.NewReplacer("L", lock, "O", other).Replace(list[i])
		}
	}
	return with, without
}

func checkBy(t *testing.T, name, lock, other string, ways []string) {
	t.Helper()
	with, without := under(lock, other)
	for _, way := range ways {
		use := strings.ReplaceAll(way, "$", name)
		for _, x := range with {
			checkThreads(t, strings.ReplaceAll(x, "$", unmarked(use)))
			checkThreads(t, strings.ReplaceAll(x, "$", unmarked(use)), "fence;")
		}
		for _, x := range without {
			checkThreads(t, strings.ReplaceAll(x, "$", use))
			checkThreads(t, "fence;", strings.ReplaceAll(x, "$", use)+" a = 1;", "take n;")
		}
	}
}

func TestCheckByLock(t *testing.T) {
	checkBy(t, "a", "l", "m", waysOfCell())
	checkBy(t, "b", "m", "l", waysOfCell())
	checkBy(t, "p", "l", "m", waysOfArray())
}

// By a lock a name may be used by all threads, each of which has to take it itself.
func TestCheckByLockThreads(t *testing.T) {
	const good = "take l; a = a + p[a & 3]; add a 1; p[1] = a; give l;"
	checkThreads(t, good, good, good)
	checkThreads(t, good, good, "output @a;")
	checkThreads(t, good, "take m; @p[0] = 1; give m;", good)
	checkThreads(t, "@a = 1;", "take l; a = 1; give l;")
	checkThreads(t, good, "take l; @b = 1; a = 1;")
	checkThreads(t, "take l; take m; a = 1; b = 2; give m; give l;", "take m; take l; b = a; give l; give m;")
	checkThreads(t, "take l; take m; a = 1; b = 2; give m; @b = a; give l;", good)
}

// The places of uses are those of their expressions, or statements; what is in a statement is used ahead of what it does, and a cell ahead of its place.
func TestCheckOrderOfUses(t *testing.T) {
	checkStmts(t, "a = @b;")
	checkStmts(t, "take l; a = @b; give l;")
	checkStmts(t, "take m; @a = b; give m;")
	checkStmts(t, "p[@b & 3] = a;")
	checkStmts(t, "take m; p[b & 3] = @a; give m;")
	checkStmts(t, "take m; @p[b & 3] = 1; give m;")
	checkStmts(t, "output @p[b & 3];")
	checkStmts(t, "take m; output @p[b & 3]; give m;")
	checkStmts(t, "take l; output p[@b & 3]; give l;")
	checkStmts(t, "add a @b;")
	checkStmts(t, "take m; @add a b; give m;")
	checkStmts(t, "output @a + b;")
	checkStmts(t, "take l; output a + @b; give l;")
	checkStmts(t, "take l; output (a + a) * pick(1, ~@b, p[b]); give l;")
	checkStmts(t, "take l; output pick(a, p[@b], b); give l;")
	checkStmts(t, "if (@a) { b = 1; } else { b = 2; }")
	checkStmts(t, "take l; if (a) { @b = 1; } else { b = 2; } give l;")
	checkStmts(t, "if (c) { @b = 1; } else { a = 2; }")
	checkStmts(t, "if (c) { } else { @a = 2; } b = 1;")
	checkStmts(t, "loop i 2 { c = @a; } b = 1;")
	checkStmts(t, "local a = @a;")
	checkStmts(t, "local a = @b; b = 1;")
	checkStmts(t, "loop i 2 { local b = 1; b = @a; }")
}

func TestCheckNoneAlone(t *testing.T) {
	for _, way := range waysOfCell() {
		use := unmarked(strings.ReplaceAll(way, "$", "d"))
		checkStmts(t, use)
		checkStmts(t, "add d 1; loop w 2 { "+use+" } d = d + 1; add d d;")
	}
	for _, way := range waysOfArray() {
		checkStmts(t, unmarked(strings.ReplaceAll(way, "$", "q")))
	}
	// Each thread has names of its own.
	checkThreads(t, "c = 1; add c 1; output c;", "d = 1; d = d + 1;", "q[0] = q[1];")
	checkThreads(t, "add d d; c = 1;", "q[1] = 1; fence;", "")
}

// checkShared holds that no use of a name goes well in a last thread, if another one has had it in one of some ways.
func checkShared(t *testing.T, first, ways []string, name string) {
	t.Helper()
	for _, ahead := range first {
		for _, way := range ways {
			use := strings.ReplaceAll(way, "$", name)
			for _, x := range around() {
				last := strings.ReplaceAll(x, "$", use)
				checkThreads(t, ahead, last)
				checkThreads(t, ahead, "", last, "take l;")
				checkThreads(t, "fence;", ahead, last+" a = 1;")
			}
		}
	}
}

// A name by no lock is one thread's, unless all add: whichever of two threads reads, writes or adds.
func TestCheckNoneShared(t *testing.T) {
	ways := []string{"output @$;", "local x = @$;", "add c @$;", "c = ~@$;", "q[@$ & 3] = 1;", "if (@$) { }", "@$ = 1;", "@$ = 2 * (1 + c);", "loop i 2 { if (i) { } else { @$ = i; } }"}
	const add = "@add $ c;"
	checkShared(t, []string{"d = 1;", "output d;", "local x = ~d;", "if (d) { }", "if (1) { } else { loop z 2 { d = 1; } }", "add d 1; output d;", "add d d;", "d = 1; add d 1;", "add d 1; d = 1; add d 1;", "take l; d = 1; give l;"}, append(ways, add), "d")
	adds := []string{"add d 1;", "add d 1; add d 2;", "loop i 3 { add d i; }", "if (1) { } else { add d 1; }"}
	checkShared(t, adds, ways, "d")
	checkShared(t, []string{"q[0] = 1;", "output q[1];", "loop i 4 { q[i] = i; }"}, []string{"output @$[2];", "@$[3] = 1;", "if (@$[c & 3]) { }", "loop i 2 { $[i] = @$[i]; }"}, "q")
	for _, ahead := range adds {
		for _, x := range around() {
			last := strings.ReplaceAll(x, "$", "add d 7;")
			checkThreads(t, ahead, last)
			checkThreads(t, ahead, last, ahead, last, ahead)
		}
	}
}

// Another thread's use matters, not this one's; what matters of them is whether all are by Bump, this thread's too.
func TestCheckNoneByBump(t *testing.T) {
	checkThreads(t, "add c 1;", "add c 2;", "add c 3; add c 4;")
	checkThreads(t, "add c 1;", "add c 2;", "add c 3; @c = 4;")
	checkThreads(t, "add c 1;", "add c 2; output @c;", "add c 3;")
	checkThreads(t, "add c 1; c = 1; add c 2;", "@add c 2;")
	checkThreads(t, "c = 1;", "@add c 2;")
	checkThreads(t, "output c;", "output @c;")
	checkThreads(t, "add c 1;", "add c @c;")
	checkThreads(t, "add c c;", "@add c 1;")
	checkThreads(t, "add c d;", "add c @d;")
	checkThreads(t, "add c d;", "add c 1;", "add c @d;")
	checkThreads(t, "add c 1; add c 1; output c; c = 1;", "d = 1;", "fence;", "@add c 1;")
	checkThreads(t, "d = 1;", "c = 1;", "@add d 1;")
	// One name's uses are nothing to another name's.
	checkThreads(t, "add c 1; d = 1;", "add c 1; q[0] = 1;", "add c 1; @d = 1;")
	checkThreads(t, "add c 1; d = 1;", "add c 1; q[0] = 1;", "add c 1; take l; a = 1; give l;")
}

// A lock's own name is no cell, and a name that is not declared is none either.
func TestCheckNoCells(t *testing.T) {
	checkThreads(t, "output l;", "l = 1; add l 2;", "if (l) { m = l; }", "take l; l = 1; give l;")
	checkThreads(t, "other = 1;", "output other;", "add other 1; other[other] = other;")
	checkThreads(t, "take l; output l + m; give l;", "output l[0]; l[m] = 1;")
}

// In place of a declared name there may be a local's, or a counter's: in the same block behind it, and in all that are in it.
func TestCheckLocals(t *testing.T) {
	for _, name := range []string{"a", "b", "p"} {
		for _, enter := range []string{"local $ = 1;", "if (0) { local $ = 1; } local $ = 1;", "local $ = 1; local $ = 2;", "local $ = 1; if (0) { local $ = 2; }", "local $ = 1; loop $ 2 { }", "local $ = 1; if (1) { } else { local $ = 3; }"} {
			for _, use := range []string{"$ = 1;", "output $;", "add $ $;", "$[$] = 1;", "c = $[0];", "if ($) { $ = 1; }", "if (1) { } else { $ = 1; }", "loop i 2 { $ = i; }", "loop i 2 { if (1) { if (1) { $ = $; } } }", "loop $ 2 { $ = 1; } $ = 1;", "local $ = $; $ = 2;"} {
				checkStmts(t, strings.ReplaceAll(enter+" "+use, "$", name))
			}
		}
		for _, text := range []string{"loop $ 2 { $ = 1; }", "loop $ 2 { output $; if (1) { $ = 1; } else { $ = $; } }", "loop $ 2 { loop i 2 { $ = 1; } }", "loop $ 1 { loop $ 1 { } $ = 1; }", "loop $ 1 { local $ = 2; $ = 1; }", "if (1) { } else { local $ = 1; $ = 2; output $; }", "if (1) { local $ = 1; $ = 2; } else { local $ = 1; add $ 2; }"} {
			checkStmts(t, strings.ReplaceAll(text, "$", name))
		}
	}
}

// What was entered is no more behind its block, and is not yet ahead of where it is entered.
func TestCheckLocalsLeft(t *testing.T) {
	for _, name := range []string{"a", "b", "p"} {
		for _, block := range []string{"if (1) { local $ = 1; $ = 2; }", "if (1) { } else { local $ = 1; }", "loop i 2 { local $ = 1; }", "loop $ 2 { }", "loop $ 2 { $ = 1; }", "loop i 2 { loop $ 2 { } }", "loop $ 2 { local $ = 1; }", "loop $ 2 { loop $ 3 { } }", "if (1) { local $ = 1; local $ = 2; }", "if (1) { local $ = 1; if (1) { local $ = 1; } } else { loop $ 2 { $ = 1; } }"} {
			for _, use := range []string{"@$ = 1;", "output @$;", "@add $ 1;", "@$[0] = 1;", "c = @$[0];", "local $ = @$;", "if (@$) { }", "loop i 2 { @$ = 1; }"} {
				checkStmts(t, strings.ReplaceAll(block+" "+use, "$", name))
				checkStmts(t, strings.ReplaceAll("if (1) { "+block+" "+use+" }", "$", name))
			}
			checkStmts(t, strings.ReplaceAll(block+" local $ = 1; $ = 2; "+block+" $ = 3;", "$", name))
			checkThreads(t, strings.ReplaceAll("local $ = 1; "+block, "$", name), strings.ReplaceAll("@$ = 1; "+block, "$", name))
		}
		checkStmts(t, strings.ReplaceAll("if (1) { local $ = 1; } else { @$ = 1; }", "$", name))
		checkStmts(t, strings.ReplaceAll("@$ = 1; local $ = 1;", "$", name))
		checkStmts(t, strings.ReplaceAll("if (1) { @$ = 1; } local $ = 1;", "$", name))
		checkStmts(t, strings.ReplaceAll("loop i 2 { @$ = 1; local $ = 1; }", "$", name))
		checkStmts(t, strings.ReplaceAll("local x = @$; local $ = 1;", "$", name))
	}
	// A local is none of a cell's uses.
	checkThreads(t, "local c = 1; c = 2; add c c;", "c = 1; output c;", "loop c 2 { output c; }", "if (1) { local c = 1; c = 2; }")
	checkThreads(t, "if (1) { local c = 1; } c = 2;", "@c = 1;")
	checkThreads(t, "local c = c;", "local c = 1; c = 2;", "@c = 3;")
	checkThreads(t, "local c = 1; c = 2; add c 1;", "add c 1;", "add c 2;")
}
