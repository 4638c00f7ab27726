package parse

import (
	"errors"
	"reflect"
	"regexp"
	"slices"
	"strconv"
	"strings"
	"testing"

	"tautochrone/api"
	"tautochrone/lex"
)

// The grammar, as the chapter writes it: whatever it has is found by trying all of its ways at once.
const grammarText = `
program  = { decl } thread { thread } End
decl     = "lock" NAME ";" | ( "public" | "secret" ) NAME [ "[" SIZE "]" ] [ "by" NAME ] ";"
thread   = "thread" block
block    = "{" { stmt } "}"
stmt     = "if" "(" expr ")" block [ "else" block ] | "loop" NAME COUNT block | simple ";"
simple   = "local" NAME "=" expr | "take" NAME | "give" NAME | "add" NAME expr | "fence" | "output" expr
         | NAME "=" expr | NAME "[" expr "]" "=" expr
expr     = unary { op expr }
unary    = "~" unary | "(" expr ")" | "pick" "(" expr "," expr "," expr ")" | DIGITS | NAME | NAME "[" expr "]"
`

// node is a piece of a rule: a text, a name, or what stands in a row, beside one another, once or not, any number of times.
type node struct {
	id   int
	kind string // "text", "name", "row", "or", "maybe", "many"
	text string
	kids []*node
}

type grammar struct {
	rules map[string]*node
	size  int
	rest  []string
}

func readGrammar() *grammar {
	g := &grammar{rules: map[string]*node{}}
	text := strings.ReplaceAll(grammarText, "\n         |", " |")
	for _, line := range strings.Split(strings.TrimSpace(text), "\n") {
		head, body, _ := strings.Cut(line, " = ")
		g.rest = regexp.MustCompile(`"[^"]*"|[A-Za-z]+|[{}()|]|\[|\]`).FindAllString(body, -1)
		g.rules[strings.TrimSpace(head)] = g.or()
	}
	return g
}

func (g *grammar) node(kind, text string, kids ...*node) *node {
	g.size++
	return &node{g.size, kind, text, kids}
}

func (g *grammar) or() *node {
	ways := []*node{g.row()}
	for len(g.rest) > 0 && g.rest[0] == "|" {
		g.rest = g.rest[1:]
		ways = append(ways, g.row())
	}
	return g.node("or", "", ways...)
}

func (g *grammar) row() *node {
	var kids []*node
	for len(g.rest) > 0 && !strings.Contains("|)]}", g.rest[0]) {
		s := g.rest[0]
		g.rest = g.rest[1:]
		kind, bracket := map[string]string{"(": "row", "[": "maybe", "{": "many"}[s]
		switch {
		case bracket:
			kids = append(kids, g.node(kind, "", g.or()))
			g.rest = g.rest[1:]
		case s[0] == '"':
			kids = append(kids, g.node("text", s[1:len(s)-1]))
		default:
			kids = append(kids, g.node("name", s))
		}
	}
	return g.node("row", "", kids...)
}

// stack is what is still to come; a nil one is nothing.
type stack struct {
	top  *node
	rest *stack
	key  string
}

func push(n *node, s *stack) *stack {
	key := ""
	if s != nil {
		key = s.key
	}
	return &stack{n, s, strconv.Itoa(n.id) + " " + key}
}

// ends are the stacks that begin with something that one token is, of all ways that a stack can go.
func (g *grammar) ends(s *stack, seen map[string]*stack) {
	if s == nil {
		return
	}
	n := s.top
	switch n.kind {
	case "row":
		next := s.rest
		for _, k := range slices.Backward(n.kids) {
			next = push(k, next)
		}
		g.ends(next, seen)
	case "or":
		for _, k := range n.kids {
			g.ends(push(k, s.rest), seen)
		}
	case "maybe":
		g.ends(s.rest, seen)
		g.ends(push(n.kids[0], s.rest), seen)
	case "many":
		g.ends(s.rest, seen)
		g.ends(push(n.kids[0], s), seen)
	default:
		if rule := g.rules[n.text]; n.kind == "name" && rule != nil {
			g.ends(push(rule, s.rest), seen)
			return
		}
		seen[s.key] = s
	}
}

func fits(n *node, t lex.Token) bool {
	if n.kind == "text" {
		return t.Text == n.text
	}
	switch n.text {
	case "NAME":
		return t.Kind == lex.Word
	case "SIZE", "COUNT", "DIGITS":
		return t.Kind == lex.Digits
	case "op":
		return slices.Contains(strings.Fields("+ - * & | ^ << >> == <"), t.Text)
	case "End":
		return t.Kind == lex.End
	}
	panic(n.text)
}

// start is what may come first.
func (g *grammar) start() map[string]*stack {
	now := map[string]*stack{}
	g.ends(push(g.rules["program"], nil), now)
	return now
}

// step is what may come behind a token; false, if the token may not come.
func (g *grammar) step(now map[string]*stack, t lex.Token) (map[string]*stack, bool) {
	next := map[string]*stack{}
	some := false
	for _, s := range now {
		if fits(s.top, t) {
			some = true
			g.ends(s.rest, next)
		}
	}
	return next, some
}

// wrong is where the first token begins that may not come; -1, if all may.
func (g *grammar) wrong(now map[string]*stack, tokens []lex.Token) int {
	for _, t := range tokens {
		next, ok := g.step(now, t)
		if !ok {
			return t.At
		}
		now = next
	}
	return -1
}

// check holds a text against the grammar; its first tokens, so many, are known to be right, and what may come then.
func (g *grammar) check(t *testing.T, s string, known int, now map[string]*stack) {
	t.Helper()
	tokens, err := lex.Cut(s)
	if err != nil {
		t.Fatal(s)
	}
	if at := g.wrong(now, tokens[known:]); at >= 0 {
		checkFault(t, s, api.ErrParse, at)
		return
	}
	if p, err := Program(s); err != nil || len(p.Threads) == 0 {
		t.Errorf("%q: %v, %v", s, p, err)
	}
}

func checkFault(t *testing.T, s string, n api.Errno, at int) {
	t.Helper()
	p, err := Program(s)
	var f *api.Fault
	if !errors.Is(err, n) || !errors.As(err, &f) || f.At != at || api.Number(err) != n {
		t.Errorf("%.200q: %v, not %v at %d", s, err, n, at)
	}
	if !reflect.DeepEqual(p, api.Program{}) {
		t.Errorf("%.200q: %v beside an error", s, p)
	}
}

const everything = `
lock l; public a; secret b [ 3 ]; public c by l; secret d[3] by l;
thread { }
thread {
	local x = ~1 + b[x * (y)] ;
	take l ; a = pick(1, x < 2, 3) << (a); b[x] = 5; give l;
	if (x == 1) { fence; } else { loop i 3 { add a i; } } if (x) { } if ((x)) { } else { }
	output ~~(1 | 2); loop j 3 { a = b[1] - 2 & 3; output a[a] ^ ~pick(a, b, c); } fence;
}`

// Each token is left out, is another one, is there twice, or has any other ahead of it.
func TestProgramWrongTokens(t *testing.T) {
	g := readGrammar()
	all := append(lex.Keys(), strings.Fields("; = [ ] { } ( ) , + - * & | ^ < ~ << >> == a 3")...)
	base, err := lex.Cut(everything)
	if err != nil || g.wrong(g.start(), base) >= 0 {
		t.Fatal(err)
	}
	now := g.start()
	for i, b := range base {
		head, behind := everything[:b.At]+" ", " "+everything[b.At+len(b.Text):]
		check := func(s string) { g.check(t, s, i, now) }
		check(head)
		check(head + behind)
		check(head + b.Text + " " + b.Text + behind)
		for _, s := range all {
			check(head + s)
			check(head + s + behind)
			check(head + s + " " + b.Text + behind)
		}
		now, _ = g.step(now, b)
	}
}

// Tokens in any row, the most of them wrong somewhere.
func TestProgramAnyTokens(t *testing.T) {
	g := readGrammar()
	all := append(lex.Keys(), strings.Fields("; = [ ] { } ( ) , + * < ~ == a a 3 3 ; { } ( )")...)
	r := newRandom(5)
	for range 20000 {
		s := []string{"", "thread {", "thread { output", "thread { a", "public a", "thread { if (a) { }", "thread { a = pick("}[r.IntN(7)]
		for range r.IntN(12) {
			s += " " + all[r.IntN(len(all))]
		}
		g.check(t, s, 0, g.start())
	}
}
