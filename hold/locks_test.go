package hold

import (
	"strings"
	"testing"

	"tautochrone/api"
)

func TestCheckTake(t *testing.T) {
	checkStmts(t, "take l; give l;")
	checkStmts(t, "take l; give l; take l; give l;")
	checkStmts(t, "take l; take m; give m; give l;")
	checkStmts(t, "take l; take m; give m; take m; give m; give l; take m; take l; give l; give m;")
	checkStmts(t, "take l; @take l;")
	checkStmts(t, "take l; @take l; give l;")
	checkStmts(t, "take l; take m; @take l; give m; give l;")
	checkStmts(t, "take l; take m; @take m; give m; give l;")
	checkStmts(t, "take l; take m; give m; @take l; give l;")
	checkStmts(t, "take l; give l; take l; @take l;")
	checkStmts(t, "take l; if (1) { @take l; give l; } give l;")
	checkStmts(t, "take l; if (1) { } else { fence; @take l; } give l;")
	checkStmts(t, "take l; loop v 2 { @take l; give l; } give l;")
	checkStmts(t, "take l; loop v 2 { give l; take l; @take l; } give l;")
	checkStmts(t, "take m; take l; loop v 2 { if (v) { loop w 2 { @take m; } } } give l; give m;")
}

func TestCheckGive(t *testing.T) {
	checkStmts(t, "@give l;")
	checkStmts(t, "@give m; take m;")
	checkStmts(t, "take l; give l; @give l;")
	checkStmts(t, "take l; @give m; give l;")
	checkStmts(t, "take l; take m; @give l; give m;")
	checkStmts(t, "take l; take m; give m; @give m; give l;")
	checkStmts(t, "take m; take l; @give m; give l;")
	checkStmts(t, "take l; take m; give m; give l; @give m;")
	checkStmts(t, "take l; if (1) { @give m; } give l;")
	checkStmts(t, "if (1) { take l; give l; @give l; }")
	checkStmts(t, "if (1) { } else { @give l; take l; }")
	checkStmts(t, "loop v 2 { @give l; take l; }")
	checkStmts(t, "take l; take m; loop v 2 { @give l; give m; take l; take m; } give m; give l;")
	checkThreads(t, "take n; take m; take l; give l; give m; give n;")
	checkThreads(t, "take n; take m; take l; give l; @give n; give m;")
	checkThreads(t, "take n; take m; take l; @give m; give l; give n;")
	checkThreads(t, "take n; take m; take l; @give n; give m; give l;")
}

// Locks that were given are not held, and those that are held stay so, over blocks that leave them as they were.
func TestCheckBlocksKeep(t *testing.T) {
	for _, block := range []string{"if (1) { give l; take l; }", "if (1) { } else { give l; a_ = 1; take l; }", "loop v 3 { give l; take l; }", "if (1) { take m; give m; } else { give l; take l; }", "loop v 3 { if (v) { give l; take l; } else { take m; give m; } }", "if (1) { give l; take m; give m; take l; }", "if (1) { } else { }", "loop v 1 { }"} {
		checkStmts(t, "take l; "+block+" a = 1; give l; @a = 2;")
		checkStmts(t, "take l; "+block+" give l; @give l;")
		checkStmts(t, "take l; "+block+" @take l; give l;")
		checkStmts(t, "take m; give m; take l; a = 1; "+block+" a = 2; "+block+" give l;")
	}
	checkStmts(t, "take l; if (1) { give l; @a = 1; take l; } give l;")
	checkStmts(t, "take l; if (1) { give l; take l; } else { a = 1; give l; @p[0] = 1; take l; } give l;")
}

// leaks are statements that leave other locks than they find, if l and then m are held.
func leaks() []string {
	return []string{"take w;", "take w; take v; give v;", "give m;", "give m; give l;", "give m; take w;", "give m; give l; take w; take v;", "give m; give l; take l;", "give m; give l; take m;", "take w; give w; give m; take v;", "give m; give l; take m; take l;", "if (1) { take w; give w; } give m;", "fence; take w; loop j 2 { }"}
}

// What a block leaves is told at its If, or its Loop, the one that it is the block of.
func TestCheckBlockLeaks(t *testing.T) {
	for _, x := range leaks() {
		for _, y := range []string{"@if (1) { $ }", "@if (1) { } else { $ }", "@if (1) { take w; give w; } else { $ }", "@if (1) { $ } else { take w; give w; }", "@loop i 2 { $ }", "@if (1) { $ } else { $ }", "if (1) { @if (0) { $ } }", "if (1) { } else { fence; @loop i 2 { $ } }", "loop i 2 { @loop k 3 { $ } }", "loop i 2 { @if (1) { } else { $ } }", "if (1) { take n; @if (0) { $ } give n; }"} {
			stmts := strings.ReplaceAll(y, "$", x)
			if strings.Contains(y, "n;") && strings.Contains(x, "give") {
				continue
			}
			checkThreads(t, "take l; take m; "+stmts+" give m; give l;")
			checkThreads(t, "fence;", "take l; take m; "+stmts+" a = 1; take l; give l;", "give l;")
			checkThreads(t, "if (1) { take l; take m; "+stmts+" give m; give l; } take l; give m;")
		}
	}
}

// What an inner block leaves, and an outer one makes good, is told at the inner one.
func TestCheckBlockLeaksInner(t *testing.T) {
	checkThreads(t, "if (1) { @if (1) { take l; } give l; }")
	checkThreads(t, "loop i 2 { @loop j 2 { take l; } give l; }")
	checkThreads(t, "take l; if (1) { @if (1) { give l; } take l; } give l;")
	checkThreads(t, "if (1) { take l; @if (0) { give l; } else { give l; } }")
	checkThreads(t, "if (1) { take l; @if (0) { } else { give l; } }")
	checkThreads(t, "@if (1) { take l; if (1) { take m; give m; } }")
	checkThreads(t, "@loop i 2 { take l; loop j 2 { give l; take l; } }")
	checkThreads(t, "if (1) { } else { @if (1) { } else { take l; } }")
	checkThreads(t, "@if (1) { take l; } else { take l; } give l;")
	checkThreads(t, "@if (1) { take l; } give l;")
	checkThreads(t, "take l; @loop i 1 { give l; }")
	checkThreads(t, "take l; @if (1) { give l; } else { give l; }")
}

// What is wrong within a Body is told ahead of what the Body leaves, and that ahead of what is wrong within an Else.
func TestCheckBlockLeaksOrder(t *testing.T) {
	checkThreads(t, "if (1) { take l; @b = 1; }")
	checkThreads(t, "if (1) { take l; @take l; }")
	checkThreads(t, "if (@b) { take l; }")
	checkThreads(t, "@if (1) { take l; } else { b = 1; }")
	checkThreads(t, "@if (1) { take l; } else { give m; }")
	checkThreads(t, "@if (1) { take l; } else { take m; }")
	checkThreads(t, "if (1) { b_ = 1; } else { take l; @b = 1; }")
	checkThreads(t, "@if (1) { } else { take l; } b = 1;")
	checkThreads(t, "loop i 2 { take l; @b = 1; }")
	checkThreads(t, "@loop i 2 { take l; } b = 1;")
	checkThreads(t, "if (1) { take l; loop i 2 { take m; @give l; } }")
	checkThreads(t, "if (1) { take l; @loop i 2 { take m; } }")
}

func TestCheckThreadEnd(t *testing.T) {
	checkThreads(t, "@take l;")
	checkThreads(t, "@fence; take l;")
	checkThreads(t, "@output c + 1; take l; c = 2; take m; give m;")
	checkThreads(t, "@if (1) { take l; give l; } take m;")
	checkThreads(t, "@loop i 2 { c = 1; } take l;")
	checkThreads(t, "@q[0] = 1; take l; take m; take n; give n;")
	checkThreads(t, "fence;", "@fence; fence; take l;", "fence;")
	checkThreads(t, "take l; give l;", "", "@take l; a = 1;")
	checkThreads(t, "@take l;", "take l; give l;")
	checkThreads(t, "@take l;", "b = 1; take m;")
	checkThreads(t, "@take l; take m; give m;", "give l;")
	// All else that is wrong in the thread comes ahead of its end.
	checkThreads(t, "take l; @b = 1;")
	checkThreads(t, "take l; take m; @give l;")
	checkThreads(t, "take l; @if (1) { take m; }")
	checkThreads(t, "take l; c = 1; @take l;")
	checkThreads(t, "take l; give l;", "take l; give l; output @b; take l;")
	// A later thread's own beginning holds nothing.
	checkThreads(t, "take l; give l;", "@give l;")
	checkThreads(t, "take l; give l;", "@a = 1;")
	checkThreads(t, "take l; give l;", "take l; give l;")
}

// breaches are statements that break the rule once, each in its own way.
func breaches() []string {
	return []string{"@a = 1;", "output @b;", "output @p[0];", "@p[1] = 2;", "@add b 1;", "@give l;", "take l; @take l; ", "take m; @give l;", "take l; take m; @give l;", "@if (1) { take l; }", "@if (1) { } else { take m; }", "@loop j 2 { take n; }", "loop j 2 { if (j) { @give n; } }", "@d = 1;", "output @d;", "@add d 1;"}
}

// Of several that are wrong the first one is told, in one thread and in several.
func TestCheckFirst(t *testing.T) {
	for _, x := range breaches() {
		for _, y := range breaches() {
			late := unmarked(y)
			const ahead = "d = 1; c = 1; take l; a = 1; give l;"
			checkThreads(t, ahead, x+" "+late)
			checkThreads(t, ahead, "if (1) { "+x+" } else { "+late+" }")
			checkThreads(t, ahead, "if (1) { "+x+" "+late+" }")
			checkThreads(t, ahead, "if (1) { } else { "+x+" } "+late)
			checkThreads(t, ahead, "loop v 2 { "+x+" "+late+" } take n;")
			checkThreads(t, ahead, x, late)
			checkThreads(t, ahead, "fence;", x+" take n;", late)
		}
	}
}

// What breaks no rule of locks may be of no right kind, and is told elsewhere.
func TestCheckOtherFaults(t *testing.T) {
	checkThreads(t, "c = q; q = c[0]; output d; c = d; if (d) { fence; } q[9] = 1; q[d] = 2;")
	checkThreads(t, "local x = 1; local x = 2; loop x 2 { x = 1; }")
	checkText(t, "public a; public a; thread { a = 1; }")
	checkText(t, "public a; public a; thread { a = 1; } thread { @a = 2; }")
}

// Each of a thread's many locks is its own.
func TestCheckManyLocks(t *testing.T) {
	var decls, take, give strings.Builder
	var gives []string
	for i := range api.MaxDecls / 2 {
		name := "l" + strings.Repeat("x", i)
		decls.WriteString("lock " + name + "; public a" + name + " by " + name + "; ")
		take.WriteString("take " + name + "; ")
		gives = append(gives, "give "+name+"; ")
	}
	for i := range gives {
		give.WriteString(gives[len(gives)-1-i])
	}
	all := take.String() + "alx = 1; al = alx; " + give.String()
	checkText(t, decls.String()+"thread { "+all+" } thread { "+all+" }")
	checkText(t, decls.String()+"thread { "+all+" @alx = 1; }")
	checkText(t, decls.String()+"thread { "+take.String()+"@take lxx; "+give.String()+" }")
	checkText(t, decls.String()+"thread { "+take.String()+"@give lxx; "+give.String()+" }")
	checkText(t, decls.String()+"thread { @"+take.String()+strings.TrimSuffix(give.String(), "give l; ")+" }")
}
