package scope

import (
	"errors"
	"fmt"
	"math"
	"slices"
	"strconv"
	"testing"

	"tautochrone/api"
)

func lock(name string) api.Decl { return api.Decl{Lock: true, Name: name} }

func cell(l api.Label, name, by string) api.Decl { return api.Decl{Label: l, Name: name, By: by} }

func array(l api.Label, name string, size int, by string) api.Decl {
	return api.Decl{Label: l, Name: name, Size: size, By: by}
}

// placed are declarations, each at a place of its own; places are neither 0 nor in the list's order.
func placed(ds ...api.Decl) []api.Decl {
	out := slices.Clone(ds)
	for i := range out {
		out[i].At = 1000 - 7*i
	}
	return out
}

// shown is a list for a remark, which is short however long the list is.
func shown(ds []api.Decl) string {
	return fmt.Sprintf("%.300q", fmt.Sprintf("%+v", ds[:min(len(ds), 8)]))
}

func good(t *testing.T, ds ...api.Decl) *Scope {
	t.Helper()
	s, err := Of(ds)
	if err != nil || s == nil {
		t.Fatalf("Of(%s): %v", shown(ds), err)
	}
	return s
}

// checkWrong holds that what is wrong first is the declaration of that number.
func checkWrong(t *testing.T, first int, ds ...api.Decl) {
	t.Helper()
	checkFault(t, placed(ds...), 1000-7*first)
}

func checkFault(t *testing.T, ds []api.Decl, at int) {
	t.Helper()
	s, err := Of(ds)
	var f *api.Fault
	if !errors.Is(err, api.ErrType) || api.Number(err) != api.ErrType || !errors.As(err, &f) || f.At != at {
		t.Errorf("Of(%s): %v, not ErrType at %d", shown(ds), err, at)
	}
	if s != nil {
		t.Errorf("Of(%s): a scope beside an error", shown(ds))
	}
}

func TestOfNone(t *testing.T) {
	for _, ds := range [][]api.Decl{nil, {}} {
		s := good(t, ds...)
		if s.Mark() != 0 {
			t.Error(s.Mark())
		}
		check(t, s, "", None, api.Public, 0, "")
		check(t, s, "a", None, api.Public, 0, "")
	}
}

// Names that are free, and by nothing or by a lock that stands ahead, are right in any order.
func TestOfGood(t *testing.T) {
	good(t, lock("l"))
	good(t, cell(api.Public, "a", ""))
	good(t, array(api.Secret, "a", 4, ""))
	good(t, lock("l"), lock("m"), cell(api.Public, "a", "l"), array(api.Secret, "b", 3, "m"), cell(api.Secret, "c", "l"))
	good(t, cell(api.Public, "a", ""), lock("l"), cell(api.Public, "b", ""), cell(api.Public, "c", "l"))
	good(t, cell(api.Public, "a", ""), cell(api.Public, "A", ""), cell(api.Public, "aa", ""), cell(api.Public, "a ", ""), cell(api.Public, "", ""))
	if s := good(t, lock("l"), cell(api.Public, "a", "l")); s.Mark() != 0 {
		t.Error(s.Mark())
	}
}

func kinds(name string) []api.Decl {
	return []api.Decl{lock(name), cell(api.Public, name, ""), cell(api.Secret, name, ""), array(api.Public, name, 1, ""), array(api.Secret, name, 64, "")}
}

// A name stands twice whatever it stands for, and wherever.
func TestOfTwice(t *testing.T) {
	b, c := cell(api.Public, "b", ""), lock("c")
	for _, name := range []string{"a", "", "loop", "\xff"} {
		for _, x := range kinds(name) {
			for _, y := range kinds(name) {
				checkWrong(t, 1, x, y)
				checkWrong(t, 1, x, y, b, c)
				checkWrong(t, 2, x, b, y, c)
				checkWrong(t, 2, b, x, y, c)
				checkWrong(t, 3, x, b, c, y)
				checkWrong(t, 3, b, c, x, y)
				checkWrong(t, 1, x, y, y)
			}
		}
	}
}

// What is by a lock that stands behind, by what is no lock, by itself, or by nothing that there is, is wrong at any place.
func TestOfBy(t *testing.T) {
	b, k := cell(api.Public, "b", ""), array(api.Secret, "k", 2, "")
	l, m := lock("l"), lock("m")
	for _, x := range []api.Decl{cell(api.Public, "a", "l"), cell(api.Secret, "a", "l"), array(api.Public, "a", 3, "l"), array(api.Secret, "a", 3, "l"), {Lock: true, Name: "a", By: "l"}} {
		good(t, l, x)
		good(t, l, x, b)
		good(t, b, l, k, x, m)
		good(t, m, l, b, k, x)
		checkWrong(t, 0, x)
		checkWrong(t, 0, x, l)
		checkWrong(t, 0, x, b, l)
		checkWrong(t, 1, b, x, l)
		checkWrong(t, 2, m, b, x)
		checkWrong(t, 2, m, k, x, l)
		for _, by := range []string{"b", "k", "a", "z", "L", "ll", " ", "l "} {
			x.By = by
			checkWrong(t, 3, b, k, l, x)
			checkWrong(t, 3, l, k, b, x, m)
			checkWrong(t, 0, x, lock("z"), lock("L"))
			checkWrong(t, 2, b, k, x)
		}
	}
}

// By a cell that is itself by a lock is by no lock.
func TestOfByBy(t *testing.T) {
	checkWrong(t, 2, lock("l"), cell(api.Public, "a", "l"), cell(api.Public, "b", "a"))
	checkWrong(t, 1, cell(api.Public, "a", ""), array(api.Public, "b", 2, "a"), lock("a"))
	// A size does not make an array of a lock.
	good(t, api.Decl{Lock: true, Name: "l", Size: 5, Label: api.Secret}, cell(api.Public, "a", "l"))
}

// Of several that are wrong the first of the list is told, whatever is wrong with it, and wherever it stands in the text.
func TestOfFirst(t *testing.T) {
	l, a := lock("l"), cell(api.Public, "a", "")
	twice, by := cell(api.Secret, "a", ""), cell(api.Public, "c", "z")
	checkWrong(t, 2, l, a, twice, by)
	checkWrong(t, 2, l, a, by, twice)
	checkWrong(t, 0, by, l, a, twice, by)
	checkWrong(t, 1, a, twice, by, twice, by)
	checkWrong(t, 1, a, by, by, twice)
	checkWrong(t, 3, l, a, cell(api.Public, "d", "l"), cell(api.Public, "a", "z"), by, twice)
	checkWrong(t, 2, l, a, cell(api.Public, "l", "l"), by)
	// Behind the first one nothing is told, not even of its own name.
	checkWrong(t, 0, by, cell(api.Public, "c", ""))
}

func TestOfPlaces(t *testing.T) {
	for _, at := range []int{0, 1, -1, 7, 1 << 16, math.MinInt, math.MaxInt} {
		checkFault(t, []api.Decl{{Name: "a", At: 5}, {Name: "a", At: at}, {Name: "a", At: 9}}, at)
		checkFault(t, []api.Decl{{Name: "a", By: "l", At: at}, {Name: "l", Lock: true, At: 3}}, at)
	}
}

// What a list says of its last declaration is found in a list of any length, far beyond what a text has.
func TestOfMany(t *testing.T) {
	const n = 200000
	ds := []api.Decl{lock("l")}
	for i := range n {
		ds = append(ds, api.Decl{Name: "a" + strconv.Itoa(i), By: "l", Size: i, At: i})
	}
	s := good(t, ds...)
	check(t, s, "a0", Shared, api.Public, 0, "l")
	check(t, s, "a1", Array, api.Public, 1, "l")
	check(t, s, "a199999", Array, api.Public, n-1, "l")
	check(t, s, "a200000", None, api.Public, 0, "")
	checkFault(t, append(slices.Clone(ds), api.Decl{Name: "a0", At: 77}), 77)
	checkFault(t, append(slices.Clone(ds), api.Decl{Name: "b", By: "a0", At: 78}), 78)
}

// The list is neither changed nor kept, and two scopes of it have nothing in common.
func TestOfList(t *testing.T) {
	ds := placed(lock("l"), cell(api.Secret, "a", "l"), array(api.Public, "k", 4, ""))
	was := slices.Clone(ds)
	s, other := good(t, ds...), good(t, ds...)
	if !slices.Equal(ds, was) {
		t.Error(ds)
	}
	for i := range ds {
		ds[i] = api.Decl{Name: "x" + strconv.Itoa(i), Size: 9}
	}
	if !s.Enter("x0", api.Secret, 3) || other.Mark() != 0 {
		t.Error("enter", other.Mark())
	}
	for _, s := range []*Scope{s, other} {
		check(t, s, "l", Lock, api.Public, 0, "")
		check(t, s, "a", Shared, api.Secret, 0, "l")
		check(t, s, "k", Array, api.Public, 4, "")
		check(t, s, "x1", None, api.Public, 0, "")
	}
	check(t, other, "x0", None, api.Public, 0, "")
	other.Leave(0)
	check(t, s, "x0", Round, api.Secret, 3, "")
}
