package scope

import (
	"math"
	"math/rand/v2"
	"slices"
	"strconv"
	"testing"

	"tautochrone/api"
)

func check(t *testing.T, s *Scope, name string, kind Kind, l api.Label, count int, by string) {
	t.Helper()
	if k, m, n, b := s.Find(name); k != kind || m != l || n != count || b != by {
		t.Errorf("Find(%q) = %d, %d, %d, %q, not %d, %d, %d, %q", name, k, m, n, b, kind, l, count, by)
	}
}

func enter(t *testing.T, s *Scope, name string, l api.Label, count int, want bool, mark int) {
	t.Helper()
	if v := s.Enter(name, l, count); v != want || s.Mark() != mark {
		t.Errorf("Enter(%q, %d, %d) = %t, and then %d locals; not %t, %d", name, l, count, v, s.Mark(), want, mark)
	}
}

func TestKinds(t *testing.T) {
	if None != 0 || Lock != 1 || Shared != 2 || Array != 3 || Own != 4 || Round != 5 {
		t.Error(None, Lock, Shared, Array, Own, Round)
	}
}

func TestExample(t *testing.T) {
	s := good(t, cell(api.Public, "a", ""), lock("l"))
	check(t, s, "a", Shared, api.Public, 0, "")
	enter(t, s, "i", api.Public, 4, true, 1)
	check(t, s, "i", Round, api.Public, 4, "")
	enter(t, s, "a", api.Public, 0, false, 1)
}

func labels() []api.Label {
	return []api.Label{api.Public, api.Secret, -1, 2, math.MinInt, math.MaxInt}
}

func TestFindDecls(t *testing.T) {
	for _, l := range labels() {
		for _, by := range []string{"", "m"} {
			for _, size := range []int{0, -1, -64, math.MinInt} {
				s := good(t, lock("m"), array(l, "a", size, by), cell(api.Public, "b", ""))
				check(t, s, "a", Shared, l, 0, by)
			}
			for _, size := range []int{1, 2, 64, 65, math.MaxInt} {
				s := good(t, lock("m"), array(l, "a", size, by), cell(api.Public, "b", ""))
				check(t, s, "a", Array, l, size, by)
			}
			// Of a lock nothing is told but that it is one.
			for _, size := range []int{0, 1, 64, -1} {
				s := good(t, lock("m"), api.Decl{Lock: true, Label: l, Name: "a", Size: size, By: by})
				check(t, s, "a", Lock, api.Public, 0, "")
			}
		}
	}
}

func TestFindLocals(t *testing.T) {
	for _, l := range labels() {
		s := good(t, lock("m"), array(api.Secret, "a", 3, "m"))
		for i, count := range []int{0, -1, -256, math.MinInt} {
			name := "x" + strconv.Itoa(i)
			enter(t, s, name, l, count, true, s.Mark()+1)
			check(t, s, name, Own, l, 0, "")
		}
		for i, count := range []int{1, 2, 256, 257, math.MaxInt} {
			name := "i" + strconv.Itoa(i)
			enter(t, s, name, l, count, true, s.Mark()+1)
			check(t, s, name, Round, l, count, "")
		}
		check(t, s, "a", Array, api.Secret, 3, "m")
		check(t, s, "x0", Own, l, 0, "")
	}
}

func TestFindNone(t *testing.T) {
	s := good(t, lock("l"), cell(api.Secret, "a", "l"), array(api.Secret, "k", 4, ""))
	enter(t, s, "x", api.Secret, 0, true, 1)
	enter(t, s, "i", api.Secret, 5, true, 2)
	for _, name := range []string{"", "z", "A", "aa", "a ", " a", "L", "kk", "X", "xx", "x\x00", "\xff"} {
		check(t, s, name, None, api.Public, 0, "")
	}
	if s.Mark() != 2 {
		t.Error(s.Mark())
	}
}

// An empty name is a name like another one.
func TestEmptyName(t *testing.T) {
	s := good(t, lock(""), cell(api.Secret, "a", ""))
	check(t, s, "", Lock, api.Public, 0, "")
	check(t, s, "a", Shared, api.Secret, 0, "")
	enter(t, s, "", api.Secret, 0, false, 0)
	s = good(t, cell(api.Secret, "a", ""))
	enter(t, s, "", api.Secret, 2, true, 1)
	check(t, s, "", Round, api.Secret, 2, "")
	s.Leave(0)
	check(t, s, "", None, api.Public, 0, "")
}

// A name that stands for something is left as it is.
func TestEnterTaken(t *testing.T) {
	s := good(t, lock("l"), cell(api.Public, "a", "l"), cell(api.Secret, "b", ""), array(api.Secret, "k", 4, "l"))
	for i, count := range []int{0, 3, -2} {
		enter(t, s, "x"+strconv.Itoa(i), api.Secret, count, true, i+1)
	}
	for range 2 {
		for _, count := range []int{-1, 0, 1, 7, math.MinInt, math.MaxInt} {
			for _, name := range []string{"l", "a", "b", "k", "x0", "x1", "x2"} {
				for _, l := range labels() {
					enter(t, s, name, l, count, false, 3)
				}
			}
		}
		check(t, s, "l", Lock, api.Public, 0, "")
		check(t, s, "a", Shared, api.Public, 0, "l")
		check(t, s, "b", Shared, api.Secret, 0, "")
		check(t, s, "k", Array, api.Secret, 4, "l")
		check(t, s, "x0", Own, api.Secret, 0, "")
		check(t, s, "x1", Round, api.Secret, 3, "")
		check(t, s, "x2", Own, api.Secret, 0, "")
	}
}

// fourLocals is a scope with the locals x0 to x3, of 0 to 3 rounds.
func fourLocals(t *testing.T) *Scope {
	t.Helper()
	s := good(t, lock("l"), cell(api.Secret, "a", "l"), array(api.Public, "k", 4, ""))
	for i := range 4 {
		enter(t, s, "x"+strconv.Itoa(i), api.Secret, i, true, i+1)
	}
	return s
}

func checkLocals(t *testing.T, s *Scope, left int) {
	t.Helper()
	if s.Mark() != left {
		t.Errorf("%d locals, not %d", s.Mark(), left)
	}
	for i := range 4 {
		name := "x" + strconv.Itoa(i)
		switch {
		case i >= left:
			check(t, s, name, None, api.Public, 0, "")
		case i == 0:
			check(t, s, name, Own, api.Secret, 0, "")
		default:
			check(t, s, name, Round, api.Secret, i, "")
		}
	}
	check(t, s, "l", Lock, api.Public, 0, "")
	check(t, s, "a", Shared, api.Secret, 0, "l")
	check(t, s, "k", Array, api.Public, 4, "")
}

func TestLeave(t *testing.T) {
	for mark, left := range map[int]int{
		math.MinInt: 4, -4: 4, -1: 4, 0: 0, 1: 1, 2: 2, 3: 3, 4: 4, 5: 4, 8: 4, 1 << 32: 4, math.MaxInt: 4,
	} {
		s := fourLocals(t)
		s.Leave(mark)
		checkLocals(t, s, left)
		s.Leave(mark)
		checkLocals(t, s, left)
		for i := range left {
			enter(t, s, "x"+strconv.Itoa(i), api.Public, 9, false, left)
		}
		for _, name := range []string{"l", "a", "k"} {
			enter(t, s, name, api.Public, 9, false, left)
		}
		checkLocals(t, s, left)
		// What was left may be entered anew, the other way round, and as something else.
		for i := 3; i >= left; i-- {
			name := "x" + strconv.Itoa(i)
			enter(t, s, name, api.Public, 9-i, true, left+4-i)
			check(t, s, name, Round, api.Public, 9-i, "")
		}
	}
}

// Those that were entered last are left first, also where a name was left and entered again.
func TestLeaveOrder(t *testing.T) {
	s := fourLocals(t)
	s.Leave(1)
	enter(t, s, "x3", api.Secret, 3, true, 2)
	enter(t, s, "x2", api.Secret, 2, true, 3)
	s.Leave(2)
	check(t, s, "x3", Round, api.Secret, 3, "")
	check(t, s, "x2", None, api.Public, 0, "")
	s.Leave(1)
	checkLocals(t, s, 1)
	s.Leave(0)
	checkLocals(t, s, 0)
	s.Leave(0)
	checkLocals(t, s, 0)
}

func TestLeaveNone(t *testing.T) {
	for _, mark := range []int{math.MinInt, -1, 0, 1, math.MaxInt} {
		s := good(t, lock("l"), cell(api.Secret, "a", "l"))
		s.Leave(mark)
		check(t, s, "a", Shared, api.Secret, 0, "l")
		enter(t, s, "x", api.Secret, 0, true, 1)
	}
}

// Mark and Leave go together, however deep blocks stand in blocks.
func TestMarkAndLeave(t *testing.T) {
	s := good(t)
	var marks []int
	for i := range 100 {
		marks = append(marks, s.Mark())
		for j := range i % 4 {
			enter(t, s, strconv.Itoa(i)+"."+strconv.Itoa(j), api.Public, j, true, marks[i]+j+1)
		}
	}
	for i, mark := range slices.Backward(marks) {
		s.Leave(mark)
		if s.Mark() != mark {
			t.Error(s.Mark(), mark)
		}
		enter(t, s, strconv.Itoa(i)+".0", api.Public, 0, true, mark+1)
	}
}

// A scope that Of did not make has no declarations, and panics at nothing.
func TestBlankScope(t *testing.T) {
	var s Scope
	s.Leave(0)
	check(t, &s, "a", None, api.Public, 0, "")
	enter(t, &s, "a", api.Secret, 0, true, 1)
	enter(t, &s, "a", api.Secret, 0, false, 1)
	s.Leave(0)
	check(t, &s, "a", None, api.Public, 0, "")
}

func TestManyLocals(t *testing.T) {
	const n = 200000
	s := good(t, lock("l"))
	for i := range n {
		s.Enter("x"+strconv.Itoa(i), api.Secret, i)
	}
	check(t, s, "x199999", Round, api.Secret, n-1, "")
	for i := n - 1; i >= 0; i-- {
		s.Leave(i)
	}
	check(t, s, "x0", None, api.Public, 0, "")
	if s.Mark() != 0 {
		t.Error(s.Mark())
	}
}

// plain is a scope once more, as the chapter's words go: lists that are gone through.
type plain struct {
	ds     []api.Decl
	locals []api.Decl // Size is the count
}

func (p *plain) find(name string) (Kind, api.Label, int, string) {
	for _, d := range p.locals {
		if d.Name == name && d.Size > 0 {
			return Round, d.Label, d.Size, ""
		}
		if d.Name == name {
			return Own, d.Label, 0, ""
		}
	}
	for _, d := range p.ds {
		switch {
		case d.Name != name:
		case d.Lock:
			return Lock, api.Public, 0, ""
		case d.Size > 0:
			return Array, d.Label, d.Size, d.By
		default:
			return Shared, d.Label, 0, d.By
		}
	}
	return None, api.Public, 0, ""
}

// wrong is the number of the first declaration that is wrong; -1, if none is.
func (p *plain) wrong() int {
	for i, d := range p.ds {
		ahead := p.ds[:i]
		twice := slices.ContainsFunc(ahead, func(a api.Decl) bool { return a.Name == d.Name })
		held := slices.ContainsFunc(ahead, func(a api.Decl) bool { return a.Lock && a.Name == d.By })
		if twice || d.By != "" && !held {
			return i
		}
	}
	return -1
}

func anyName(r *rand.Rand) string { return string("abcdefghijklmnopqrst"[r.IntN(20)]) }

func anyDecls(r *rand.Rand) []api.Decl {
	var ds []api.Decl
	for range r.IntN(7) {
		d := api.Decl{Lock: r.IntN(2) == 0, Label: api.Label(r.IntN(2)), Name: anyName(r), Size: max(0, r.IntN(8)-3), At: r.IntN(100)}
		if len(ds) > 0 && r.IntN(3) == 0 {
			d.By = ds[r.IntN(len(ds))].Name
		}
		if r.IntN(20) == 0 {
			d.By = anyName(r)
		}
		ds = append(ds, d)
	}
	return ds
}

// step does one call to both scopes.
func step(t *testing.T, r *rand.Rand, s *Scope, p *plain) {
	t.Helper()
	if r.IntN(3) == 0 {
		mark := r.IntN(len(p.locals)+3) - 1
		s.Leave(mark)
		if mark >= 0 && mark < len(p.locals) {
			p.locals = p.locals[:mark]
		}
		return
	}
	d := api.Decl{Name: anyName(r), Label: api.Label(r.IntN(2)), Size: r.IntN(7) - 3}
	kind, _, _, _ := p.find(d.Name)
	if kind == None {
		p.locals = append(p.locals, d)
	}
	enter(t, s, d.Name, d.Label, d.Size, kind == None, len(p.locals))
}

// Any declarations, and any calls in any order, are as the plain scope has them.
func TestAnyCalls(t *testing.T) {
	r := rand.New(rand.NewPCG(6, 6))
	for range 5000 {
		p := &plain{ds: anyDecls(r)}
		if i := p.wrong(); i >= 0 {
			checkFault(t, p.ds, p.ds[i].At)
			continue
		}
		s := good(t, p.ds...)
		for range 12 {
			step(t, r, s, p)
			if s.Mark() != len(p.locals) {
				t.Fatal(s.Mark(), len(p.locals))
			}
			for _, c := range "abcdefghijklmnopqrst" {
				kind, l, count, by := p.find(string(c))
				check(t, s, string(c), kind, l, count, by)
			}
		}
		if t.Failed() {
			t.Fatal(p)
		}
	}
}
