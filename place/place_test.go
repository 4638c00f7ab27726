package place

import (
	"fmt"
	"math"
	"slices"
	"strings"
	"testing"

	"tautochrone/api"
	"tautochrone/parse"
)

// sized is a declaration, and how many cells it has.
type sized struct {
	decl  api.Decl
	cells int
}

// sizes are declarations without names of all kinds and Sizes, with their cells written out.
func sizes() []sized {
	var all []sized
	for _, x := range []struct{ size, cells int }{
		{math.MinInt64, 1}, {math.MinInt64 + 1, 1}, {-1 << 32, 1}, {1 - 1<<32, 1}, {-65, 1}, {-64, 1}, {-2, 1}, {-1, 1},
		{0, 1}, {1, 1}, {2, 2}, {3, 3}, {8, 8}, {62, 62}, {63, 63}, {64, 64},
		{65, 64}, {66, 64}, {128, 64}, {255, 64}, {256, 64}, {257, 64}, {1 << 32, 64}, {1<<32 + 1, 64}, {math.MaxInt64 - 1, 64}, {math.MaxInt64, 64},
	} {
		all = append(all,
			sized{api.Decl{Size: x.size}, x.cells},
			sized{api.Decl{Size: x.size, Label: api.Secret, By: "l", At: 7}, x.cells},
			sized{api.Decl{Size: x.size, Lock: true}, 1},
			sized{api.Decl{Size: x.size, Lock: true, Label: api.Secret, At: 9}, 1})
	}
	return all
}

// few are those of sizes that are edges, so that all lists of three of them may be gone through.
func few() []sized {
	return []sized{
		{api.Decl{Lock: true}, 1}, {api.Decl{Lock: true, Size: 5, Label: api.Secret}, 1}, {api.Decl{Size: -3}, 1}, {api.Decl{}, 1},
		{api.Decl{Size: 1}, 1}, {api.Decl{Size: 2, Label: api.Secret}, 2}, {api.Decl{Size: 63, By: "l"}, 63}, {api.Decl{Size: 64}, 64}, {api.Decl{Size: 65, Label: api.Secret}, 64},
	}
}

// named are declarations with unlike names: n0, n1, ..
func named(xs ...sized) []api.Decl {
	var ds []api.Decl
	for i, x := range xs {
		x.decl.Name = fmt.Sprint("n", i)
		ds = append(ds, x.decl)
	}
	return ds
}

func begins(t *testing.T, m Map, name string, want int) {
	t.Helper()
	if at, ok := m.Start(name); at != want || !ok {
		t.Errorf("Start(%.40q): %d, %v, not %d, true", name, at, ok, want)
	}
}

func isNot(t *testing.T, m Map, names ...string) {
	t.Helper()
	for _, name := range names {
		if at, ok := m.Start(name); at != 0 || ok {
			t.Errorf("Start(%.40q): %d, %v, not 0, false", name, at, ok)
		}
	}
}

func has(t *testing.T, m Map, want int) {
	t.Helper()
	if n := m.Size(); n != want {
		t.Errorf("Size: %d, not %d", n, want)
	}
}

// lie holds that declarations lie one behind the other, and that there is nothing besides.
func lie(t *testing.T, xs ...sized) {
	t.Helper()
	m, at := Of(named(xs...)), 0
	for i, x := range xs {
		begins(t, m, fmt.Sprint("n", i), at)
		at += x.cells
	}
	has(t, m, at)
	isNot(t, m, "", "n", fmt.Sprint("n", len(xs)), "n-1", "l")
	if t.Failed() {
		t.Fatalf("of %+v", xs)
	}
}

func TestExample(t *testing.T) {
	for _, text := range []string{"lock l; public a[3]; secret b; thread { }", "lock l; public a[3] by l; secret b by l; thread { a[0] = 1; }"} {
		p, err := parse.Program(text)
		if err != nil {
			t.Fatal(err)
		}
		m := Of(p.Decls)
		begins(t, m, "l", 0)
		begins(t, m, "a", 1)
		begins(t, m, "b", 4)
		has(t, m, 5)
		labelled(t, p.Decls, api.Public, api.Public, api.Public, api.Public, api.Secret)
	}
}

func TestNone(t *testing.T) {
	for _, m := range []Map{Of(nil), Of([]api.Decl{}), {}} {
		has(t, m, 0)
		isNot(t, m, "", "a", "l", "\x00")
	}
	lie(t)
}

func TestAlone(t *testing.T) {
	for _, x := range sizes() {
		lie(t, x)
	}
}

func TestTwo(t *testing.T) {
	for _, x := range sizes() {
		for _, y := range sizes() {
			lie(t, x, y)
		}
	}
}

// Every order of the edges, locks among them first, last and between.
func TestThree(t *testing.T) {
	for _, x := range few() {
		for _, y := range few() {
			for _, z := range few() {
				lie(t, x, y, z)
				lie(t, x, y, z, y, x)
			}
		}
	}
}

// Sizes of one list together, from the front on and from the back on.
func TestAllAtOnce(t *testing.T) {
	all := sizes()
	lie(t, all...)
	slices.Reverse(all)
	lie(t, all...)
	for range len(all) {
		all = append(all[1:], all[0])
		lie(t, all...)
	}
}

// As many as a text may have, and far more.
func TestMany(t *testing.T) {
	for _, n := range []int{63, api.MaxDecls, api.MaxDecls + 1, 1000, 20000} {
		for _, x := range few() {
			lie(t, slices.Repeat([]sized{x}, n)...)
		}
		lie(t, slices.Repeat(few(), n)[:n]...)
	}
}

// What else a declaration has says nothing of its cells.
func TestOtherFields(t *testing.T) {
	for _, x := range few() {
		for _, x.decl.Label = range []api.Label{api.Public, api.Secret, 2, -1, math.MaxInt64} {
			for _, x.decl.By = range []string{"", "l", "n0", "n1", "none"} {
				for _, x.decl.At = range []int{0, 1, -1, math.MaxInt64, math.MinInt64} {
					lie(t, x, few()[5], x)
				}
			}
		}
	}
}

// A name is there as it is written, and no other one is, whatever it begins or ends with.
func TestNames(t *testing.T) {
	names := []string{"door", "doorway", "do", "Door", "_", "_door", "x1", "x10", "\xff", "door\x00", "ä", strings.Repeat("a", 10000)}
	var ds []api.Decl
	for i, name := range names {
		ds = append(ds, api.Decl{Name: name, Size: i + 2, By: "way"})
	}
	m, at := Of(ds), 0
	for i, name := range names {
		begins(t, m, name, at)
		at += i + 2
	}
	has(t, m, at)
	isNot(t, m, "", "d", "doo", "door ", " door", "oor", "doorw", "doorwa", "doorways", "way", "DOOR", "x", "x100", "\x00", "\xfe", "\xff\xff", "a", "\xc3", "\xa4", strings.Repeat("a", 9999), strings.Repeat("a", 10001))
}

// A name without a byte is one like any other, if it is declared.
func TestEmptyName(t *testing.T) {
	ds := []api.Decl{{Name: "a", Size: 3}, {Name: "", Size: 2}, {Name: "b"}}
	m := Of(ds)
	begins(t, m, "", 3)
	begins(t, m, "b", 5)
	has(t, m, 6)
	isNot(t, Of(slices.Delete(ds, 1, 2)), "")
}

// What is put behind changes no place of those ahead, nor of the Map that there is already.
func TestPutBehind(t *testing.T) {
	all := sizes()
	ds := named(all...)
	var starts []int
	end := 0
	for i := range all {
		m := Of(ds[:i])
		has(t, m, end)
		starts, end = append(starts, end), end+all[i].cells
		longer := Of(ds[:i+1])
		has(t, m, starts[i])
		has(t, longer, end)
		isNot(t, m, ds[i].Name)
		begins(t, longer, ds[i].Name, starts[i])
		for k := range i {
			begins(t, m, ds[k].Name, starts[k])
			begins(t, longer, ds[k].Name, starts[k])
		}
	}
}

// Of names that are alike the first one is told, and each has its cells.
func TestAlike(t *testing.T) {
	m := Of([]api.Decl{{Name: "b"}, {Name: "a", Size: 3}, {Name: "a", Size: 7}, {Name: "c"}, {Name: "b", Lock: true}, {Name: "d"}})
	begins(t, m, "a", 1)
	begins(t, m, "b", 0)
	begins(t, m, "c", 11)
	begins(t, m, "d", 13)
	has(t, m, 14)
}

// Asking changes nothing; Maps know nothing of each other; what was handed in may be changed behind.
func TestKeepsNothing(t *testing.T) {
	ds := []api.Decl{{Lock: true, Name: "l", Size: 9}, {Name: "a", Size: 3, Label: api.Secret, By: "l", At: 5}, {Name: "b", Size: -1}}
	before := slices.Clone(ds)
	m, copied := Of(ds), Of(ds)
	other := Of([]api.Decl{{Name: "b", Size: 4}, {Name: "x"}})
	if !slices.Equal(ds, before) {
		t.Error("declarations were changed:", ds)
	}
	for i := range ds {
		ds[i] = api.Decl{Name: "x", Size: 40}
	}
	for _, m := range []Map{m, copied, m} {
		isNot(t, m, "x", "", "c")
		begins(t, m, "b", 4)
		begins(t, m, "l", 0)
		begins(t, m, "a", 1)
		has(t, m, 5)
		isNot(t, m, "x")
	}
	begins(t, other, "b", 0)
	begins(t, other, "x", 4)
	isNot(t, other, "l", "a")
	has(t, other, 5)
}
