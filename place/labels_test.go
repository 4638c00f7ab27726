package place

import (
	"math"
	"slices"
	"testing"

	"tautochrone/api"
)

func labelled(t *testing.T, ds []api.Decl, want ...api.Label) {
	t.Helper()
	before := slices.Clone(ds)
	if ls := Labels(ds); !slices.Equal(ls, want) {
		t.Errorf("Labels(%.8v ..): %v, not %v", ds[:min(len(ds), 8)], ls, want)
	}
	if !slices.Equal(ds, before) {
		t.Error("declarations were changed:", ds)
	}
}

// times is a label of so many cells.
func times(l api.Label, n int) []api.Label {
	return slices.Repeat([]api.Label{l}, n)
}

func TestLabelsNone(t *testing.T) {
	labelled(t, nil)
	labelled(t, []api.Decl{})
}

func TestLabelsTexts(t *testing.T) {
	open, key := api.Decl{Name: "a"}, api.Decl{Name: "b", Label: api.Secret}
	row, keys := api.Decl{Name: "c", Size: 2}, api.Decl{Name: "d", Size: 3, Label: api.Secret}
	lock := api.Decl{Name: "l", Lock: true}
	const p, s = api.Public, api.Secret
	labelled(t, []api.Decl{open}, p)
	labelled(t, []api.Decl{key}, s)
	labelled(t, []api.Decl{row}, p, p)
	labelled(t, []api.Decl{keys}, s, s, s)
	labelled(t, []api.Decl{lock}, p)
	labelled(t, []api.Decl{open, key, row, keys, lock}, p, s, p, p, s, s, s, p)
	labelled(t, []api.Decl{lock, keys, row, key, open}, p, s, s, s, p, p, s, p)
	labelled(t, []api.Decl{keys, lock, key}, s, s, s, p, s)
	labelled(t, []api.Decl{key, open, key, open}, s, p, s, p)
	labelled(t, []api.Decl{row, keys, row, keys}, p, p, s, s, s, p, p, s, s, s)
	labelled(t, []api.Decl{lock, lock, key, lock}, p, p, s, p)
}

// A label is told as it is declared, but of locks, which are public whatever theirs is, and have one cell whatever their Size is.
func TestLabelsSizes(t *testing.T) {
	for _, x := range sizes() {
		for _, l := range []api.Label{api.Public, api.Secret, 2, -1, math.MaxInt64, math.MinInt64} {
			x.decl.Label = l
			want := l
			if x.decl.Lock {
				want = api.Public
			}
			labelled(t, []api.Decl{x.decl}, times(want, x.cells)...)
			labelled(t, []api.Decl{{Label: api.Secret}, x.decl, {Size: 2}}, slices.Concat(times(api.Secret, 1), times(want, x.cells), times(api.Public, 2))...)
		}
	}
}

// There is one label a cell of a Map, and a name's are where it begins, for lists in any order.
func TestLabelsAndPlaces(t *testing.T) {
	all := sizes()
	for range len(all) {
		all = append(all[1:], all[0])
		ds := named(all...)
		m, ls := Of(ds), Labels(ds)
		has(t, m, len(ls))
		for i, d := range ds {
			at, ok := m.Start(d.Name)
			want := d.Label
			if d.Lock {
				want = api.Public
			}
			if !ok || !slices.Equal(ls[at:at+all[i].cells], times(want, all[i].cells)) {
				t.Errorf("%+v: at %d of %v", d, at, ls)
			}
		}
	}
}

// Names say nothing of labels, be they alike or none.
func TestLabelsNames(t *testing.T) {
	labelled(t, []api.Decl{{Name: "a", Label: api.Secret}, {Name: "a"}, {Label: api.Secret, Size: 2}, {}, {Name: "a", Lock: true}}, api.Secret, api.Public, api.Secret, api.Secret, api.Public, api.Public)
}

func TestLabelsAreNew(t *testing.T) {
	ds := []api.Decl{{Lock: true, Label: api.Secret}, {Size: 3, Label: api.Secret}, {}}
	want := []api.Label{api.Public, api.Secret, api.Secret, api.Secret, api.Public}
	first, second := Labels(ds), Labels(ds)
	for i := range first {
		first[i] = 9
	}
	if !slices.Equal(second, want) {
		t.Error(second)
	}
	for i := range ds {
		ds[i].Label = 7
	}
	if !slices.Equal(second, want) {
		t.Error(second)
	}
}
